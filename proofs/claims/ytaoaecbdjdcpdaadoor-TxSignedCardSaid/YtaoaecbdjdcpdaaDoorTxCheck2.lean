/-
  Layer 10: can it be: the reference's Check.
-/
import Derived.Test.YtaoaecbdjdcpdaaDoorTxCheck
namespace Go.Proofs.YtaoaecbdjdcpdaaDoor
open Go Go.RowKit

section
variable {ops : Array Oper} {o : Oper} {a : Act} {S : World → Prop}
end
end Go.Proofs.YtaoaecbdjdcpdaaDoor
