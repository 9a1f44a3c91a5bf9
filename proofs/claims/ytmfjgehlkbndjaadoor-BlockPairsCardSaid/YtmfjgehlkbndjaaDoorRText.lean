/-
  The walk of the reference's Text: the same digits, laid in front.
-/
import Derived.Test.YtmfjgehlkbndjaaDoorLawAlive
import Derived.Test.YtmfjgehlkbndjaaDoorHex
namespace Go.Proofs.YtmfjgehlkbndjaaDoor
open Go Go.RowKit

section
variable {P : Program} {ops : Array Oper} {C : World → Prop} {Q : Act → Prop} {rest : List Oper} {o : Oper} {a : Act}
end

end Go.Proofs.YtmfjgehlkbndjaaDoor
