/-
  The walk of the reference's Sum, joined of its loops.
-/
import Derived.Test.YtnaclalbeocpkaaGreatDoorRefL6
import Derived.Test.YtnaclalbeocpkaaGreatDoorRefL10
import Derived.Test.YtnaclalbeocpkaaGreatDoorRefL12
namespace Go.Proofs.YtnaclalbeocpkaaGreatDoor
open Go Go.RowKit
theorem info_arr8u64 : (Tryz.prog.info? 139).map (·.size) = some 8 := by kernel_rfl
theorem zero_arr8u64 : ((Tryz.prog.info? 139).bind (·.zero)).map Value.cells = some (tab 8 fun _ => V64 0) := by kernel_rfl
def st0Parts : Array (Nat × Value) := ((List.range 8).map fun j => (j, V64 (at32 st0.list j))).toArray
theorem build_st0 : ∀ w, (Instr.build 139 st0Parts).run Tryz.prog w = .ok (.agg (tab 8 fun j => V64 (at32 st0.list j))) w := fun _ => by kernel_rfl

theorem padded_len (L : List UInt8) : (padded L).length = 64 * ((padded L).length / 64) := by
  unfold padded tailOf be64
  simp
  omega

theorem padded_len' (L : List UInt8) : (padded L).length = L.length + 9 + (119 - L.length % 64) % 64 := by
  unfold padded tailOf be64
  simp
  omega
theorem sha_at (L : List UInt8) (p : Nat) (hp : p < 32) : at8 (sha L) p = hbyte (absorb (padded L) ((padded L).length / 64)).list p := by
  unfold sha St.bytes
  rw [at8_lt _ _ (by simpa using hp)]; simp
theorem build_zeroHash' : ∀ w, (Instr.build 33 #[]).run Tryz.prog w = .ok (.agg (tab 32 fun _ => VB 0)) w := fun _ => by kernel_rfl

end Go.Proofs.YtnaclalbeocpkaaGreatDoor
