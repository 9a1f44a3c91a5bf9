/-
  Layer 8: the walks of the reference's Right, push and Lock.
-/
import Derived.Test.YtnaclalbeocpkaaGreatDoorLbAll
namespace Go.Proofs.YtnaclalbeocpkaaGreatDoor
open Go Go.RowKit

theorem z20_tab : (tab 20 fun _ => VB 0) = tab 20 fun p => VB (at8 z20 p) := by
  unfold tab
  rw [List.map_congr_left (g := fun p => VB (at8 z20 p)) fun j hj => by rw [at_z20 j (List.mem_range.1 hj)]]
theorem build_short8 : ∀ w, (Instr.build 23 #[]).run Tryz.prog w = .ok (.agg (tab 20 fun p => VB (at8 z20 p))) w := fun w => by rw [← z20_tab]; exact build_zeroShort w
theorem zero_short8 : ((Tryz.prog.info? 23).bind (·.zero)).map Value.cells = some (tab 20 fun p => VB (at8 z20 p)) := by rw [← z20_tab]; exact zero_Short
theorem eqGuard_Short : Tryz.prog.eqGuardType Tryz.prog.depth 23 = false := by kernel_rfl
theorem tab_one8 (l : List UInt8) (n : Nat) : ∀ v ∈ tab n fun p => VB (at8 l p), v.oneCell' = true := by
  intro v hv
  simp only [tab, List.mem_toArray, List.mem_map] at hv
  obtain ⟨j, -, rfl⟩ := hv; rfl
theorem tab_size8 (n : Nat) (f : Nat → Value) : (tab n f).size = n := by simp [tab]
theorem right_n1 {d : Deed} (hk : d.kind = 1) : rightB d = (decide (d.name = []) && decide (d.value = []) && decide (d.rand = [])) := by simp [rightB, hk, Bool.decide_and, Bool.and_assoc]
theorem right_n2 {d : Deed} (hk : d.kind = 2) : rightB d = (decide ((d.name.length : Int) > 0) && decide ((d.name.length : Int) ≤ 64) && decide ((d.rand.length : Int) > 0) && decide ((d.rand.length : Int) ≤ 32) && decide ((d.value.length : Int) ≤ 200) && decide (d.commit = z20)) := by
  rw [Bool.eq_iff_iff]
  simp only [rightB, hk, Bool.and_eq_true, decide_eq_true_eq]
  simp
  grind
theorem right_n3 {d : Deed} (hk : d.kind = 3) : rightB d = (decide ((d.name.length : Int) > 0) && decide ((d.name.length : Int) ≤ 64) && decide (d.rand = []) && decide ((d.value.length : Int) ≤ 200) && decide (d.commit = z20)) := by
  rw [Bool.eq_iff_iff]
  simp only [rightB, hk, Bool.and_eq_true, decide_eq_true_eq]
  simp
  grind
theorem beq_decide (l m : List UInt8) : (l == m) = decide (l = m) := by by_cases h : l = m <;> simp [h]
end Go.Proofs.YtnaclalbeocpkaaGreatDoor
