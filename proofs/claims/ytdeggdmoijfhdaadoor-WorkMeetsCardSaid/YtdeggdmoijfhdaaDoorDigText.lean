/-
  The walk of digest's Text: a hash in digits, its last byte first.
-/
import Derived.Test.YtdeggdmoijfhdaaDoorDigAll
import Derived.Test.YtdeggdmoijfhdaaDoorKitAll
namespace Go.Proofs.YtdeggdmoijfhdaaDoor
open Go.RowKit

theorem made_own (w : World) (g m : Nat) (hm : m ≤ maxLen) (h : Row w g 5 (Array.replicate m (VB 0))) : OwnBytes w g (.slice (some ⟨g, 0, none⟩) 0 m) [] :=
  ⟨rfl, .inr ⟨g, m, _, rfl, Nat.le_refl _, h, Nat.zero_le _, hm, by simp, by simp⟩⟩

end Go.Proofs.YtdeggdmoijfhdaaDoor
