/-
  The walks of the reference's small functions: right and down, over numbers of 32 bits that lie in 64, and its keys.
-/
import Derived.Test.YtnaclalbeocpkaaDoorRText
namespace Go.Proofs.YtnaclalbeocpkaaDoor
open Go Go.RowKit

/-- a number of 32 bits in one of 64 -/
abbrev V64 (x : UInt32) : Value := .int .u64 (I x)

theorem rright_num (x : UInt32) (n : Nat) (h1 : 1 ≤ n) (h2 : n ≤ 31) :
    (bits .or .u64 (I x / 2 ^ n) (I x * 2 ^ (32 - n))).tmod 4294967296 = I (rotr x n) := by
  have hx := x.toNat_lt
  have e1 : I x * 2 ^ (32 - n) = ((x.toNat * 2 ^ (32 - n) : Nat) : Int) := by unfold I; rw [Int.natCast_mul, Int.natCast_pow]; rfl
  have e2 : I x / 2 ^ n = ((x.toNat / 2 ^ n : Nat) : Int) := by unfold I; rw [Int.natCast_ediv, Int.natCast_pow]; rfl
  have l2 : x.toNat / 2 ^ n < 18446744073709551616 := by have := Nat.div_le_self x.toNat (2 ^ n); omega
  have hp : 2 ^ (32 - n) ≤ 2 ^ 31 := Nat.pow_le_pow_right (by decide) (by omega)
  have l1 : x.toNat * 2 ^ (32 - n) < 18446744073709551616 := by
    have := Nat.mul_le_mul (Nat.le_of_lt hx) hp
    omega
  rw [e1, e2, u64_or_nat _ _ l2 l1]
  unfold I
  rw [rotr_toNat, Int.tmod_eq_emod_of_nonneg (by omega)]
  rfl

theorem shl_in (x : UInt32) (n : Nat) (h1 : 1 ≤ n) : 0 ≤ I x * 2 ^ (32 - n) ∧ I x * 2 ^ (32 - n) < 18446744073709551616 := by
  have hx := x.toNat_lt
  have e1 : I x * 2 ^ (32 - n) = ((x.toNat * 2 ^ (32 - n) : Nat) : Int) := by unfold I; rw [Int.natCast_mul, Int.natCast_pow]; rfl
  have hp : 2 ^ (32 - n) ≤ 2 ^ 31 := Nat.pow_le_pow_right (by decide) (by omega)
  have := Nat.mul_le_mul (Nat.le_of_lt hx) hp
  rw [e1]; omega

set_option maxHeartbeats 400000 in
theorem rright_nat (x : UInt32) (n : Nat) (w : World) (h1 : 1 ≤ n) (h2 : n ≤ 31) :
    Calls Tryd.prog 45 #[V64 x, .int .u64 (n : Int)] w fun e w' => e = .returned (V64 (rotr x n)) ∧ w = w' := by
  have hI := I_lo x
  have hJ := I_hi x
  have he := Lib.hid (rright_num x n h1 h2)
  have hc : (32 - (n : Int)).toNat = 32 - n := by omega
  obtain ⟨hs0, hs1⟩ := shl_in x n h1
  go_enter Tryd.func45, Tryd.ntmps45
  go_wp2
  go_ret
  exact ⟨congrArg _ (congrArg _ he.out), rfl⟩

set_option maxHeartbeats 400000 in
theorem rdown_nat (x : UInt32) (n : Nat) (w : World) (h2 : n ≤ 31) :
    Calls Tryd.prog 46 #[V64 x, .int .u64 (n : Int)] w fun e w' => e = .returned (V64 (shr x n)) ∧ w = w' := by
  have hI := I_lo x
  have hJ := I_hi x
  have he := Lib.hid (shr_code x n)
  go_enter Tryd.func46, Tryd.ntmps46
  go_wp2
  go_ret
  exact ⟨congrArg _ (congrArg _ he.out), rfl⟩
theorem rright_int (x : UInt32) (n : Int) (w : World) (h1 : 1 ≤ n) (h2 : n ≤ 31) :
    Calls Tryd.prog 45 #[V64 x, .int .u64 n] w fun e w' => e = .returned (V64 (rotr x n.toNat)) ∧ w = w' := by
  obtain ⟨m, rfl⟩ := Int.eq_ofNat_of_zero_le (show 0 ≤ n by omega)
  rw [Int.toNat_natCast]
  exact rright_nat x m w (by omega) (by omega)
theorem rdown_int (x : UInt32) (n : Int) (w : World) (h1 : 0 ≤ n) (h2 : n ≤ 31) :
    Calls Tryd.prog 46 #[V64 x, .int .u64 n] w fun e w' => e = .returned (V64 (shr x n.toNat)) ∧ w = w' := by
  obtain ⟨m, rfl⟩ := Int.eq_ofNat_of_zero_le h1
  rw [Int.toNat_natCast]
  exact rdown_nat x m w (by omega)

theorem info_arr64u64 : (Tryd.prog.info? 77).map (·.size) = some 64 := by kernel_rfl
theorem zero_arr64u64 : ((Tryd.prog.info? 77).bind (·.zero)).map Value.cells = some (tab 64 fun _ => V64 0) := by kernel_rfl
theorem info_u64b : (Tryd.prog.info? 75).map (·.size) = some 1 := by kernel_rfl

def keyParts : Array (Nat × Value) := ((List.range 64).map fun j => (j, V64 (at32 kTab j))).toArray
theorem build_keys : ∀ w, (Instr.build 77 keyParts).run Tryd.prog w = .ok (.agg (tab 64 fun j => V64 (at32 kTab j))) w := fun _ => by kernel_rfl

set_option maxRecDepth 100000 in
set_option maxHeartbeats 400000 in
theorem rkeys_any (w : World) :
    Calls Tryd.prog 44 #[] w fun e w' => e = .returned (.agg (tab 64 fun j => V64 (at32 kTab j))) ∧ Below w.heap.size w w' := by
  go_enter Tryd.func44, Tryd.ntmps44
  go_wp2_with (first
    | ((with_reducible change wpList _ _ _ (Oper.mk (some 0) _ _ _ _ _ :: _) _ _); refine kAlloc _ _ rfl rfl zero_arr64u64 ?_; intro w1 hR1 hz1 hB1)
    | ((with_reducible change wpList _ _ _ (Oper.mk (some 1) _ _ _ _ _ :: _) _ _); refine kBuild _ _ keyParts _ rfl rfl (by kernel_rfl) build_keys ?_)
    | ((with_reducible change wpList _ _ _ (Oper.mk none _ _ _ _ _ :: _) _ _); refine kStoreRow _ _ _ _ _ _ _ rfl rfl rfl rfl hR1 (by rw [tab_size]; exact info_arr64u64) (by simp only [tab_size]) (tab_one _ _ fun _ _ => rfl) ?_; intro w6 hR6 hW6))
  exact result_row Tryd.results44 rfl hR6 Tryd.underlying77 rfl (by rw [tab_size]; exact info_arr64u64) rfl ⟨rfl, hB1.trans (hW6.below (Nat.le_refl _))⟩
end Go.Proofs.YtnaclalbeocpkaaDoor
