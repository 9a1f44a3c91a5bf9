/-
  bynamelaw12.WorkNext, walked.
-/
import Derived.Test.YtdeggdmoijfhdaaWkLaw0
namespace Go.Proofs.Ytdeggdmoijfhdaa
open Go Go.RowKit

set_option maxRecDepth 100000 in
set_option maxHeartbeats 32000000 in
theorem WorkNext_any (b : Nat) (hb : b < 4294967296) (f : Nat) (hf : f < 4294967296) (l : Nat) (hl : l < 4294967296) (w : World) : Calls Try.prog 5 #[.int .u32 (b : Int), .int .u32 (f : Int), .int .u32 (l : Int)] w (fun e w' => e = .returned (.bool true) ∧ Below w.heap.size w w') := by
  obtain ⟨r, Hr⟩ : ∃ v_ : Nat, Hid (nextN b f l = v_) := ⟨_, Lib.hid rfl⟩
  have hM0 := mm_nil w
  (try unfold WV)
  go_enter Try.func5, Try.ntmps5
  go_wp2_with (first
    | (go_at_call 10; refine (workAlive_any _).mono ?_; rintro e w1 ⟨rfl, hB1⟩; have hM1 := hM0.on hB1; clear hB1 hM0; (try unfold WV); go_frame)
    | (go_at_call 14; (with_reducible change Calls _ _ #[Value.int .u32 ((b : Int)), Value.int .u32 ((f : Int)), Value.int .u32 ((l : Int))] _ _); refine (kNext_as hb hf hl Hr.out _).mono ?_; rintro e w2 ⟨rfl, hB2⟩; have hM2 := hM1.on hB2; clear hB2 hM1; (try unfold WV); go_frame)
    | (go_at_call 21; (with_reducible change Calls _ _ #[Value.int .u32 ((b : Int)), Value.int .u32 ((f : Int)), Value.int .u32 ((l : Int))] _ _); refine (qNext_num hb hf hl Hr.out _).mono ?_; rintro e w3 ⟨rfl, hB3⟩; have hM3 := hM2.on hB3; clear hB3 hM2; (try unfold WV); go_frame)
    | ((with_reducible change wpList _ _ _ (Oper.mk (some 17) _ _ _ _ _ :: _) _ _); refine kYw (yEqlK _ _ _ _ .u32 (r) (r) true (by simp) rfl rfl rfl rfl) ?_; go_frame))
  go_ret
  exact ⟨rfl, hM3.below⟩
end Go.Proofs.Ytdeggdmoijfhdaa
