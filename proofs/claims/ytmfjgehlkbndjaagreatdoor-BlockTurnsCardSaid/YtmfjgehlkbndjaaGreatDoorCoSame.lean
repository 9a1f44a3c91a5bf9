/-
  Layer 9: the walks of Same, SameCoin and Right.
-/
import Derived.Test.YtmfjgehlkbndjaaGreatDoorCoSum
namespace Go.Proofs.YtmfjgehlkbndjaaGreatDoor
open Go Go.RowKit

end Go.Proofs.YtmfjgehlkbndjaaGreatDoor
