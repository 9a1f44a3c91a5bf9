/-
  Layer 9: the walks of Same, SameCoin and Right.
-/
import Derived.Test.YtdeggdmoijfhdaaDoorCoSum
namespace Go.Proofs.YtdeggdmoijfhdaaDoor
open Go Go.RowKit

def sameO (n : Int) (l : List UInt8) (m : Int) (k : List UInt8) : Bool := decide (n = m) && (l == k)
theorem sameO_iff {n m : Int} {l k : List UInt8} : sameO n l m k = true ↔ n = m ∧ l = k := by unfold sameO; simp
def sameC (c d : CoinP) : Bool := (sameO c.value c.lock d.value d.lock && decide (c.height = d.height)) && decide (c.base = d.base)
theorem sameC_refl (c : CoinP) : sameC c c = true := by simp [sameC, sameO]
/-- a coin's cells, with what stands for its lock -/
def coinV (c : CoinP) (v : Value) : Array Value := coinC c.value v c.height c.base
end Go.Proofs.YtdeggdmoijfhdaaDoor
