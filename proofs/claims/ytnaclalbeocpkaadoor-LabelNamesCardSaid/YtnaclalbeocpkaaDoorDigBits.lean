/-
  The walks of the small functions that turn and shift one number of 32 bits: each returns what its plain function says and leaves the world alone.
-/
import Derived.Test.YtnaclalbeocpkaaDoorRows
import Derived.Test.YtnaclalbeocpkaaDoorKitAll
import Derived.WalkKit
import Derived.WalkSpells
import Derived.WalkLawsBesides
import Derived.Lib.Hide
namespace Go.Proofs.YtnaclalbeocpkaaDoor
open Go.RowKit

theorem rot_amount (n : Nat) (h1 : 1 ≤ n) (h2 : n ≤ 31) : bits BinOp.and IntKind.u64 (IntKind.u64.wrap (-(n : Int))) 31 = 32 - (n : Int) := by
  have : ∀ n : Fin 32, 1 ≤ n.val → bits BinOp.and IntKind.u64 (IntKind.u64.wrap (-(n.val : Int))) 31 = 32 - (n.val : Int) := by decide +kernel
  exact this ⟨n, by omega⟩ h1

set_option maxHeartbeats 400000 in
theorem turned_any (x : UInt32) (n : Nat) (w : World) (h1 : 1 ≤ n) (h2 : n ≤ 31) :
    Calls Tryd.prog 62 #[.int .u32 (I x), .int .i64 (n : Int)] w fun e w' => e = .returned (.int .u32 (I (rotr x n))) ∧ w = w' := by
  have hb := rot_amount n h1 h2
  have hc : (32 - (n : Int)).toNat = 32 - n := by omega
  have hd : (32 - (32 - (n : Int))) = (n : Int) := by omega
  have hI := I_lo x
  have hJ := I_hi x
  have he := Lib.hid (rot_code x n)
  go_enter Tryd.func62, Tryd.ntmps62
  go_wp2
  go_ret
  exact ⟨congrArg _ (congrArg _ he.out), rfl⟩

theorem turned_int (x : UInt32) (n : Int) (w : World) (h1 : 1 ≤ n) (h2 : n ≤ 31) :
    Calls Tryd.prog 62 #[.int .u32 (I x), .int .i64 n] w fun e w' => e = .returned (.int .u32 (I (rotr x n.toNat))) ∧ w = w' := by
  obtain ⟨m, rfl⟩ := Int.eq_ofNat_of_zero_le (show 0 ≤ n by omega)
  rw [Int.toNat_natCast]
  exact turned_any x m w (by omega) (by omega)

set_option maxHeartbeats 400000 in
theorem turnE_any (x : UInt32) (w : World) :
    Calls Tryd.prog 58 #[.int .u32 (I x)] w fun e w' => e = .returned (.int .u32 (I (bS1 x))) ∧ w = w' := by
  have hx := bxor
  go_enter Tryd.func58, Tryd.ntmps58
  go_wp2_with (go_at_call 62; refine (turned_int _ _ _ (by omega) (by omega)).mono ?_; rintro e w' ⟨rfl, rfl⟩)
  go_ret
  exact ⟨rfl, rfl⟩

set_option maxHeartbeats 400000 in
theorem turnA_any (x : UInt32) (w : World) :
    Calls Tryd.prog 59 #[.int .u32 (I x)] w fun e w' => e = .returned (.int .u32 (I (bS0 x))) ∧ w = w' := by
  have hx := bxor
  go_enter Tryd.func59, Tryd.ntmps59
  go_wp2_with (go_at_call 62; refine (turned_int _ _ _ (by omega) (by omega)).mono ?_; rintro e w' ⟨rfl, rfl⟩)
  go_ret
  exact ⟨rfl, rfl⟩

theorem shr_code (x : UInt32) (n : Nat) : I x / 2 ^ n = I (shr x n) := by
  unfold I; rw [shr_toNat, Int.natCast_ediv, Int.natCast_pow]; rfl

set_option maxHeartbeats 400000 in
theorem spread15_any (x : UInt32) (w : World) :
    Calls Tryd.prog 60 #[.int .u32 (I x)] w fun e w' => e = .returned (.int .u32 (I (sS0 x))) ∧ w = w' := by
  have hx := bxor
  have hs : I x / 8 = I (shr x 3) := shr_code x 3
  go_enter Tryd.func60, Tryd.ntmps60
  go_wp2_with (go_at_call 62; refine (turned_int _ _ _ (by omega) (by omega)).mono ?_; rintro e w' ⟨rfl, rfl⟩)
  go_ret
  exact ⟨rfl, rfl⟩

set_option maxHeartbeats 400000 in
theorem spread2_any (x : UInt32) (w : World) :
    Calls Tryd.prog 61 #[.int .u32 (I x)] w fun e w' => e = .returned (.int .u32 (I (sS1 x))) ∧ w = w' := by
  have hx := bxor
  have hs : I x / 1024 = I (shr x 10) := shr_code x 10
  go_enter Tryd.func61, Tryd.ntmps61
  go_wp2_with (go_at_call 62; refine (turned_int _ _ _ (by omega) (by omega)).mono ?_; rintro e w' ⟨rfl, rfl⟩)
  go_ret
  exact ⟨rfl, rfl⟩

end Go.Proofs.YtnaclalbeocpkaaDoor
