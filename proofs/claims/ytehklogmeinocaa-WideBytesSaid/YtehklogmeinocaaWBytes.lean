/-
  A number's bytes, the highest first; the walks of wide's Bytes and From.
-/
import Derived.Test.YtehklogmeinocaaWMem
namespace Go.Proofs.Ytehklogmeinocaa
open Go Go.RowKit

/-! ### plain -/
/-- the i-th byte, the lowest first -/
def nbyte (a i : Nat) : Nat := a / 2 ^ (8 * i) % 256
theorem nbyte_lt (a i : Nat) : nbyte a i < 256 := Nat.mod_lt _ (by decide)
theorem nbyte_limb (a i : Nat) : limb a (i / 8) / 2 ^ (i % 8 * 8) % 256 = nbyte a i := by
  have hm : i % 8 < 8 := Nat.mod_lt _ (by decide)
  unfold limb nbyte
  have e1 : (18446744073709551616 : Nat) = 2 ^ (i % 8 * 8) * 2 ^ (64 - i % 8 * 8) := by rw [← Nat.pow_add, show i % 8 * 8 + (64 - i % 8 * 8) = 64 by omega]
  rw [e1, Nat.mod_mul_right_div_self, P64_pow, Nat.div_div_eq_div_mul, ← Nat.pow_add]
  have e2 : (256 : Nat) ∣ 2 ^ (64 - i % 8 * 8) := by
    rw [show (256 : Nat) = 2 ^ 8 from rfl]; exact Nat.pow_dvd_pow 2 (by omega)
  rw [Nat.mod_mod_of_dvd _ e2, show 64 * (i / 8) + i % 8 * 8 = 8 * i by omega]
/-- the number of these bytes, the lowest first -/
def bnum (g : Nat → Nat) : Nat → Nat
  | 0 => 0
  | k + 1 => bnum g k + g k * 2 ^ (8 * k)
theorem bnum_lt (g : Nat → Nat) (hg : ∀ i, g i < 256) : ∀ k, bnum g k < 2 ^ (8 * k)
  | 0 => by show 0 < _; exact Nat.pow_pos (by decide)
  | k + 1 => by
    have h := bnum_lt g hg k
    have h2 := hg k
    show bnum g k + g k * 2 ^ (8 * k) < _
    rw [show 8 * (k + 1) = 8 * k + 8 by omega, Nat.pow_add]
    have : (g k + 1) * 2 ^ (8 * k) ≤ 2 ^ 8 * 2 ^ (8 * k) := Nat.mul_le_mul_right _ (by omega)
    rw [Nat.add_mul, Nat.one_mul] at this
    rw [Nat.mul_comm (2 ^ (8 * k))]
    omega
theorem bnum_self (a : Nat) : ∀ k, bnum (nbyte a) k = a % 2 ^ (8 * k)
  | 0 => by rw [Nat.mul_zero, Nat.pow_zero, Nat.mod_one]; rfl
  | k + 1 => by
    show bnum (nbyte a) k + nbyte a k * 2 ^ (8 * k) = _
    rw [bnum_self a k, show 8 * (k + 1) = 8 * k + 8 by omega, Nat.pow_add, Nat.mod_mul]
    unfold nbyte
    rw [show (2 ^ 8 : Nat) = 256 from rfl, Nat.mul_comm (2 ^ (8 * k))]
theorem bnum_byte (g : Nat → Nat) (hg : ∀ i, g i < 256) (i : Nat) : ∀ k, i < k → nbyte (bnum g k) i = g i
  | 0, h => by omega
  | k + 1, h => by
    show (bnum g k + g k * 2 ^ (8 * k)) / 2 ^ (8 * i) % 256 = _
    by_cases e : i = k
    · subst e
      rw [Nat.mul_comm, Nat.add_mul_div_left _ _ (Nat.pow_pos (by decide)), Nat.div_eq_of_lt (bnum_lt g hg i), Nat.zero_add, Nat.mod_eq_of_lt (hg i)]
    · have hk : i < k := by omega
      have ih := bnum_byte g hg i k hk
      unfold nbyte at ih
      have e1 : g k * 2 ^ (8 * k) = 2 ^ (8 * i) * (256 * (g k * 2 ^ (8 * k - 8 * i - 8))) := by
        have : (2 : Nat) ^ (8 * k) = 2 ^ (8 * i) * (256 * 2 ^ (8 * k - 8 * i - 8)) := by
          rw [show (256 : Nat) = 2 ^ 8 from rfl, ← Nat.pow_add, ← Nat.pow_add]; congr 1; omega
        rw [this]; ac_rfl
      rw [e1, Nat.add_mul_div_left _ _ (Nat.pow_pos (by decide)), Nat.add_mul_mod_self_left]
      exact ih
theorem bnum_limb (g : Nat → Nat) (hg : ∀ i, g i < 256) (k : Nat) (v : Nat) (hv : v = limb (bnum g k) (k / 8) ||| g k * 2 ^ (k % 8 * 8)) :
    (wcells (bnum g k)).setIfInBounds (k / 8) (.int .u64 (v : Int)) = wcells (bnum g (k + 1)) := tab_set fun j hj => by
  subst hv
  have hN := bnum_lt g hg k
  have hN2 := bnum_lt g hg (k + 1)
  show Value.int .u64 ((limb (bnum g k + g k * 2 ^ (8 * k)) j : Nat) : Int) = _
  have e8 : (2 : Nat) ^ (8 * k) = P64 (k / 8) * 2 ^ (k % 8 * 8) := by rw [P64_pow, ← Nat.pow_add]; congr 1; omega
  by_cases h : j = k / 8
  · subst h
    rw [if_pos rfl]
    congr 2
    have h1 : bnum g k / P64 (k / 8) < 2 ^ (k % 8 * 8) := Nat.div_lt_of_lt_mul (by rw [← e8]; exact hN)
    have hs : g k * 2 ^ (k % 8 * 8) + 2 ^ (k % 8 * 8) ≤ 18446744073709551616 := by
      have h2 := hg k
      have h3 : (g k + 1) * 2 ^ (k % 8 * 8) ≤ 2 ^ 8 * 2 ^ (k % 8 * 8) := Nat.mul_le_mul_right _ (by omega)
      rw [← Nat.pow_add] at h3
      have h4 : (2 : Nat) ^ (8 + k % 8 * 8) ≤ 2 ^ 64 := Nat.pow_le_pow_right (by decide) (by omega)
      rw [Nat.add_mul, Nat.one_mul] at h3
      omega
    unfold limb
    rw [e8, show g k * (P64 (k / 8) * 2 ^ (k % 8 * 8)) = P64 (k / 8) * (g k * 2 ^ (k % 8 * 8)) by ac_rfl, Nat.add_mul_div_left _ _ (P64_pos _)]
    rw [Nat.mod_eq_of_lt (show bnum g k / P64 (k / 8) < 18446744073709551616 by omega), Nat.mod_eq_of_lt (by omega)]
    rw [Nat.or_comm, Nat.mul_comm (g k), ← Nat.two_pow_add_eq_or_of_lt h1, Nat.add_comm]
  · rw [if_neg h]
    congr 2
    by_cases hlt : j < k / 8
    · rw [e8, show g k * (P64 (k / 8) * 2 ^ (k % 8 * 8)) = P64 (k / 8) * (g k * 2 ^ (k % 8 * 8)) by ac_rfl, limb_mult _ _ _ _ hlt]
    · have hP : 2 ^ (8 * (k + 1)) ≤ P64 j := by rw [P64_pow]; exact Nat.pow_le_pow_right (by decide) (by omega)
      have hP2 : 2 ^ (8 * k) ≤ 2 ^ (8 * (k + 1)) := Nat.pow_le_pow_right (by decide) (by omega)
      have hN3 : bnum g k + g k * 2 ^ (8 * k) < 2 ^ (8 * (k + 1)) := hN2
      unfold limb
      rw [Nat.div_eq_of_lt (by omega), Nat.div_eq_of_lt (by omega)]
theorem bnum_M256 (g : Nat → Nat) (hg : ∀ i, g i < 256) : bnum g 32 < M256 := bnum_lt g hg 32

/-- the cells of 32 bytes -/
def bcells (f : Nat → Nat) : Array Value := tab 32 fun p => .int .u8 (f p : Int)
def bytesOf (a : Nat) : Nat → Nat := fun p => nbyte a (31 - p)
def byTo (a k : Nat) : Array Value := tab 32 fun p => .int .u8 ((if 31 - p < k then nbyte a (31 - p) else 0 : Nat) : Int)
theorem byTo_zero (a : Nat) : byTo a 0 = tab 32 fun _ => .int .u8 0 := tab_congr fun p _ => by simp
theorem byTo_all (a : Nat) : byTo a 32 = bcells (bytesOf a) := tab_congr fun p hp => by rw [if_pos (by omega)]; rfl
theorem byTo_set (a k : Nat) (hk : k < 32) : (byTo a k).setIfInBounds (31 - k) (.int .u8 (nbyte a k : Int)) = byTo a (k + 1) := tab_set fun p hp => by
  by_cases h : p = 31 - k
  · subst h
    rw [if_pos rfl, show 31 - (31 - k) = k by omega, if_pos (by omega)]
  · rw [if_neg h]
    by_cases h2 : 31 - p < k
    · rw [if_pos h2, if_pos (by omega)]
    · rw [if_neg h2, if_neg (by omega)]
theorem bcells_size (f : Nat → Nat) : (bcells f).size = 32 := tab_size ..
theorem bcells_one (f : Nat → Nat) : ∀ v ∈ bcells f, v.oneCell' = true := tab_one _ _ fun _ _ => rfl
theorem byTo_size (a k : Nat) : (byTo a k).size = 32 := tab_size ..

theorem info_arr32 : (Try.prog.info? 45).map (·.size) = some 32 := by kernel_rfl
theorem info_b8 : (Try.prog.info? 5).map (·.size) = some 1 := by kernel_rfl
theorem zero_arr32 : ((Try.prog.info? 45).bind (·.zero)).map Value.cells = some (tab 32 fun _ => .int .u8 0) := by kernel_rfl

set_option maxRecDepth 100000 in
set_option maxHeartbeats 2000000 in
theorem wBytes_any (a : Nat) (w : World) :
    Calls Try.prog 29 #[WV a] w fun e w' => e = .returned (.agg (bcells (bytesOf a))) ∧ Below w.heap.size w w' := by
  unfold WV
  go_enter Try.func29, Try.ntmps29
  go_wp2_with (first
    | ((with_reducible change wpList _ _ _ (Oper.mk (some 1) _ _ _ _ _ :: _) _ _); refine kBoxL _ _ _ rfl rfl rfl ?_; intro w1 hR1 hl1 hB1)
    | ((with_reducible change wpList _ _ _ (Oper.mk (some 2) _ _ _ _ _ :: _) _ _); refine kAllocL _ _ rfl rfl zero_arr32 ?_; intro w2 hR2 hl2 hB2)
    | ((with_reducible change wpList _ _ _ (Oper.mk (some 3) _ _ _ _ _ :: _) _ _); refine kAllocL _ _ rfl rfl zero_arr32 ?_; intro w3 hR3 hl3 hB3; go_frame))
  have hRa := (hR1.below hB2 (by omega)).below hB3 (by omega)
  have hRm := hR2.below hB3 (by omega)
  have hB : Below w.heap.size w w3 := (hB1.trans (hB2.mono (by omega))).trans (hB3.mono (by omega))
  clear hR1 hR2 hB1 hB2 hB3
  go_loopw [5] (fun i wr => ∃ k : Nat, k ≤ 32 ∧ i = .int .i64 k ∧ Row wr w2.heap.size 45 (byTo a k) ∧ Below w2.heap.size w3 wr) (fun i _ => 32 - (intOf i).toNat)
  case atStart => exact ⟨0, by omega, rfl, by rw [byTo_zero]; exact hR3, Below.refl _ _⟩
  case round =>
    obtain ⟨k, hk, rfl, hR, hBr⟩ := hrel
    have hRar := hRa.below hBr (by omega)
    by_cases hlt : k < 32
    · have hd : decide ((k : Int) < 32) = true := by simp; omega
      have hl8 : limb a (k / 8) < 18446744073709551616 := limb_lt _ _
      have Hv := Lib.hid (nbyte_limb a k)
      go_wp2_with (first
        | ((with_reducible change wpList _ _ _ (Oper.mk (some 12) _ _ _ _ _ :: _) _ _); refine kIndexAddr1 _ _ _ _ _ _ _ (k / 8) _ rfl rfl rfl rfl Try.underlying24 info_w64 (by omega) (by omega) ?_)
        | ((with_reducible change wpList _ _ _ (Oper.mk (some 13) _ _ _ _ _ :: _) _ _); refine kLoad1 _ _ _ _ _ _ _ _ rfl rfl rfl hRar Try.underlying22 rfl (wcells_get a (k / 8) (by omega)) ?_; go_frame)
        | ((with_reducible change wpList _ _ _ (Oper.mk (some 19) _ _ _ _ _ :: _) _ _); refine kIndexAddr1 _ _ _ _ _ _ _ (31 - k) _ rfl rfl rfl rfl Try.underlying45 info_b8 (by omega) (by omega) ?_)
        | ((with_reducible change wpList _ _ _ (Oper.mk none _ _ _ _ _ :: _) _ _); refine kStore1 _ _ _ _ _ _ _ (.int .u8 (nbyte a k : Int)) rfl rfl rfl (congrArg (Value.int IntKind.u8) (by rw [shr_val, ← Hv.out, Int.natCast_emod]; rfl)) hR info_b8 (by rw [byTo_size]; omega) rfl ?_; intro w5 hR5 hW5; rw [byTo_set a k hlt] at hR5))
      go_roundw
      case rel => exact ⟨k + 1, by omega, by go_num, hR5, hBr.trans (hW5.below (by omega))⟩
      case measure => simp [intOf]; omega
    · obtain rfl : k = 32 := by omega
      rw [byTo_all] at hR
      have hRmr := hRm.below hBr (by omega)
      have hBw : Below w.heap.size w wr := hB.trans (hBr.mono (by omega))
      go_wp2_with (first
        | ((with_reducible change wpList _ _ _ (Oper.mk (some 21) _ _ _ _ _ :: _) _ _); refine kLoadRow _ _ _ _ _ _ rfl rfl rfl hR Try.underlying45 rfl (by rw [bcells_size]; exact info_arr32) ?_)
        | ((with_reducible change wpList _ _ _ (Oper.mk none _ _ _ _ _ :: _) _ _); refine kStoreRow _ _ _ _ _ _ _ rfl rfl rfl rfl hRmr (by rw [bcells_size]; exact info_arr32) (by rw [bcells_size, tab_size]) (bcells_one _) ?_; intro w6 hR6 hW6))
      exact result_row Try.results29 rfl hR6 Try.underlying45 rfl (by rw [bcells_size]; exact info_arr32) rfl ⟨rfl, hBw.trans (hW6.below (by omega))⟩

theorem shl8 (l g m : Nat) (hl : l < 18446744073709551616) (hg : g < 256) (hm : m < 8) : bits .or .u64 (l : Int) (IntKind.u64.wrap ((g : Int) * 2 ^ (m * 8))) = ((l ||| g * 2 ^ (m * 8) : Nat) : Int) := by
  have h2 : g * 2 ^ (m * 8) < 18446744073709551616 := by
    have h3 : g * 2 ^ (m * 8) < 2 ^ 8 * 2 ^ (m * 8) := Nat.mul_lt_mul_of_pos_right hg (Nat.pow_pos (by decide))
    rw [← Nat.pow_add] at h3
    have h4 : (2 : Nat) ^ (8 + m * 8) ≤ 2 ^ 64 := Nat.pow_le_pow_right (by decide) (by omega)
    omega
  rw [shl_val, Nat.mod_eq_of_lt h2, u64_or_nat _ _ hl h2]
theorem bcells_get (f : Nat → Nat) (p : Nat) (h : p < 32) : (bcells f)[p]? = some (.int .u8 (f p : Int)) := tab_get _ _ _ h

set_option maxRecDepth 100000 in
set_option maxHeartbeats 2000000 in
theorem wFrom_any (f : Nat → Nat) (hf : ∀ i, f i < 256) (w : World) :
    Calls Try.prog 30 #[.agg (bcells f)] w fun e w' => e = .returned (WV (bnum (fun i => f (31 - i)) 32)) ∧ Below w.heap.size w w' := by
  unfold WV
  obtain ⟨z, Hz⟩ : ∃ z, Hid (z = 0) := ⟨0, Lib.hid rfl⟩
  have hzW : ((Try.prog.info? 24).bind (·.zero)).map Value.cells = some (wcells z) := by rw [Hz.out]; exact zero_Wide
  obtain ⟨g, Hg⟩ : ∃ g, Hid (g = fun i => f (31 - i)) := ⟨_, Lib.hid rfl⟩
  have hg : ∀ i, g i < 256 := fun i => by rw [Hg.out]; exact hf _
  rw [← Hg.out]
  go_enter Try.func30, Try.ntmps30
  go_wp2_with (first
    | ((with_reducible change wpList _ _ _ (Oper.mk (some 1) _ _ _ _ _ :: _) _ _); refine kBoxL _ _ _ rfl rfl rfl ?_; intro w1 hR1 hl1 hB1)
    | ((with_reducible change wpList _ _ _ (Oper.mk (some 2) _ _ _ _ _ :: _) _ _); refine kAllocL _ _ rfl rfl hzW ?_; intro w2 hR2 hl2 hB2)
    | ((with_reducible change wpList _ _ _ (Oper.mk (some 3) _ _ _ _ _ :: _) _ _); refine kAllocL _ _ rfl rfl hzW ?_; intro w3 hR3 hl3 hB3; go_frame))
  have hRa := (hR1.below hB2 (by omega)).below hB3 (by omega)
  have hRm := hR2.below hB3 (by omega)
  have hB : Below w.heap.size w w3 := (hB1.trans (hB2.mono (by omega))).trans (hB3.mono (by omega))
  clear hR1 hR2 hB1 hB2 hB3
  go_loopw [5] (fun i wr => ∃ k : Nat, k ≤ 32 ∧ i = .int .i64 k ∧ Row wr w2.heap.size 24 (wcells (bnum g k)) ∧ Below w2.heap.size w3 wr) (fun i _ => 32 - (intOf i).toNat)
  case atStart => exact ⟨0, by omega, rfl, by show Row _ _ _ (wcells 0); rw [← Hz.out]; exact hR3, Below.refl _ _⟩
  case round =>
    obtain ⟨k, hk, rfl, hR, hBr⟩ := hrel
    have hRar := hRa.below hBr (by omega)
    by_cases hlt : k < 32
    · have hd : decide ((k : Int) < 32) = true := by simp; omega
      have hgk := hg k
      have hget : (bcells f)[31 - k]? = some (.int .u8 (g k : Int)) := by rw [bcells_get _ _ (by omega), Hg.out]
      go_wp2_with fail
      refine region_drew_tail 15 (by kernel_rfl) (by kernel_rfl) ?_
      simp only [List.take_succ_cons, List.take_zero, List.drop_succ_cons, List.drop_zero]
      repeat (first
        | ((with_reducible change wpQuiet _ _ _ _ (Oper.mk (some 10) _ _ _ _ _ :: _) _); refine qIndexAddr1 _ _ _ _ _ _ _ (k / 8) _ rfl rfl rfl rfl Try.underlying24 info_w64 (by omega) (by omega) ?_; go_frame)
        | ((with_reducible change wpQuiet _ _ _ _ (Oper.mk (some 11) _ _ _ _ _ :: _) _); refine qLoad1 _ _ _ _ _ _ _ _ rfl rfl rfl (fun _ ⟨_, e⟩ => by rw [e]; exact hR) Try.underlying22 rfl (wcells_get _ (k / 8) (by omega)) ?_; go_frame)
        | ((with_reducible change wpQuiet _ _ _ _ (Oper.mk (some 14) _ _ _ _ _ :: _) _); refine qIndexAddr1 _ _ _ _ _ _ _ (31 - k) _ rfl rfl rfl rfl Try.underlying45 info_b8 (by omega) (by omega) ?_; go_frame)
        | ((with_reducible change wpQuiet _ _ _ _ (Oper.mk (some 15) _ _ _ _ _ :: _) _); refine qLoad1 _ _ _ _ _ _ _ _ rfl rfl rfl (fun _ ⟨_, e⟩ => by rw [e]; exact hRar) Try.underlying5 rfl hget ?_; go_frame)
        | ((with_reducible change wpQuiet _ _ _ _ (Oper.mk (some 22) _ _ _ _ _ :: _) _); refine qIndexAddr1 _ _ _ _ _ _ _ (k / 8) _ rfl rfl rfl rfl Try.underlying24 info_w64 (by omega) (by omega) ?_; go_frame)
        | go_big_quiet_step (fail))
      refine wpQuiet_nil ?_
      rintro _ ⟨nq, rfl⟩
      refine kStore1 _ _ _ _ _ (k / 8) _ (.int .u64 ((limb (bnum g k) (k / 8) ||| g k * 2 ^ (k % 8 * 8) : Nat) : Int)) rfl rfl rfl (congrArg (Value.int IntKind.u64) (shl8 _ _ _ (limb_lt _ _) hgk (Nat.mod_lt _ (by decide)))) (hR.drewN nq) info_w64 (by rw [wcells_size]; omega) rfl ?_
      intro w6 hR6 hW6
      rw [bnum_limb g hg k _ rfl] at hR6
      have hB6 : Below w2.heap.size w3 w6 := hBr.trans ⟨hW6.os, hW6.tape, hW6.output, Nat.le_of_eq hW6.size.symm, fun k hk => hW6.other k (by omega)⟩
      clear hget
      go_wp2
      go_roundw
      case rel => exact ⟨k + 1, by omega, by go_num, hR6, hB6⟩
      case measure => simp [intOf]; omega
    · obtain rfl : k = 32 := by omega
      have hRmr := hRm.below hBr (by omega)
      have hBw : Below w.heap.size w wr := hB.trans (hBr.mono (by omega))
      go_wp2_with (first
        | ((with_reducible change wpList _ _ _ (Oper.mk (some 24) _ _ _ _ _ :: _) _ _); refine kLoadRow _ _ _ _ _ _ rfl rfl rfl hR Try.underlying24 rfl (info_WideC _) ?_)
        | ((with_reducible change wpList _ _ _ (Oper.mk none _ _ _ _ _ :: _) _ _); refine kStoreRow _ _ _ _ _ _ _ rfl rfl rfl rfl hRmr (info_WideC _) (by simp only [wcells_size]) (wcells_one _) ?_; intro w6 hR6 hW6))
      exact result_row Try.results30 rfl hR6 Try.underlying24 rfl (info_WideC _) rfl ⟨rfl, hBw.trans (hW6.below (by omega))⟩
end Go.Proofs.Ytehklogmeinocaa
