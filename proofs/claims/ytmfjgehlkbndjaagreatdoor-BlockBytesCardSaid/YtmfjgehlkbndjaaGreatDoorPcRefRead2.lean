/-
  Layer 6: the walks of the reference's CountOf and TextOf.
-/
import Derived.Test.YtmfjgehlkbndjaaGreatDoorPcRefRead
namespace Go.Proofs.YtmfjgehlkbndjaaGreatDoor
open Go Go.RowKit
variable {Lm : Nat}

end Go.Proofs.YtmfjgehlkbndjaaGreatDoor
