/-
  Layer 7: Opens, the chapter's examples, and the walks of ScriptNames and ScriptMoves.
-/
import Derived.Test.YtnaclalbeocpkaaGreatDoorScRun2
namespace Go.Proofs.YtnaclalbeocpkaaGreatDoor
open Go Go.RowKit

/-- the hash of noughts -/
def hs0 : List Value := List.replicate 32 (Value.int .u8 0)
theorem hs0_len : hs0.length = 32 := rfl
theorem hs0_one : ∀ x ∈ hs0, x.oneCell' = true := fun x hx => by rw [List.eq_of_mem_replicate hx]; rfl
theorem built_hash0L : Tryz.prog.built 33 [] = some (List.replicate 32 (Value.int .u8 0)).toArray := by kernel_rfl
theorem built_hash0J : Tryz.prog.built 33 [] = some hs0.toArray := built_hash0L
theorem run0 {u l : List UInt8} {v1 v2 : Value} {e : Nat} {z : Int} (w : World) (hv1 : IsVals w v1 (u.map VB)) (hv2 : IsVals w v2 (l.map VB)) (hr : runS calm u l = some e) (hz : (e : Int) = z) : Calls Tryz.prog 6 #[v1, v2, .agg hs0.toArray] w fun en w' => en = .returned (.int .i64 z) ∧ Below w.heap.size w w' := by
  subst hz; exact scRun_any (calm_ok _ []) hs0_len hs0_one w (fun _ _ h => by simp at h) hv1 hv2 hr
theorem vals_long {w : World} {g : Nat} (h : Row w g 5 (Array.replicate 2001 (VB 0))) : IsVals w (.slice (some ⟨g, 0, none⟩) 2001 2001) ((List.replicate 2001 (0 : UInt8)).map VB) := by
  have h1 : Row w g 5 ((List.replicate 2001 (0 : UInt8)).map VB).toArray := by rw [List.map_replicate, List.toArray_replicate]; exact h
  have := isVals_lit h1
  rw [List.length_map, List.length_replicate] at this; exact this
theorem ex_long : runS calm (List.replicate 2001 0) [] = some 73 := by unfold runS; rw [if_pos (.inl (by rw [List.length_replicate]; decide))]
end Go.Proofs.YtnaclalbeocpkaaGreatDoor
