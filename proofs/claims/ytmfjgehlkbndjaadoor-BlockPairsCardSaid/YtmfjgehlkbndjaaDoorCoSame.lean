/-
  Layer 9: the walks of Same, SameCoin and Right.
-/
import Derived.Test.YtmfjgehlkbndjaaDoorCoSum
namespace Go.Proofs.YtmfjgehlkbndjaaDoor
open Go Go.RowKit

end Go.Proofs.YtmfjgehlkbndjaaDoor
