/-
  Layer 6: the walks of the reference's CountOf and TextOf.
-/
import Derived.Test.YtmfjgehlkbndjaaDoorPcRefRead
namespace Go.Proofs.YtmfjgehlkbndjaaDoor
open Go Go.RowKit
variable {Lm : Nat}

end Go.Proofs.YtmfjgehlkbndjaaDoor
