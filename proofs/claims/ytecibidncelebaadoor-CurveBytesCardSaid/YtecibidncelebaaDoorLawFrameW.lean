/-
  What comes into the statements of layer 2, opened: numbers of 256 bits, rows of 32 bytes.
-/
import Derived.Test.YtecibidncelebaaDoorWAll
import Derived.Test.YtecibidncelebaaDoorRows
import Derived.ProofKit
import Derived.OpenShut
import Derived.ChangeOld
import Derived.Deep.DeepHandedRow
import Derived.Lib.LaidTab
import Derived.Below
import Derived.WideKeyArr2
import Derived.Test.YtecibidncelebaaDoorLawBase
namespace Go.Proofs.YtecibidncelebaaDoor
open Go.ChangeShapes Go.WideShapes Go.ChangeAt Go.RowKit


end Go.Proofs.YtecibidncelebaaDoor
