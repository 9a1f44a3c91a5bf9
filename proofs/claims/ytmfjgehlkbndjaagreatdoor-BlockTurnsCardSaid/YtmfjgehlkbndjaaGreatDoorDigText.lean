/-
  The walk of digest's Text: a hash in digits, its last byte first.
-/
import Derived.Test.YtmfjgehlkbndjaaGreatDoorDigAll
import Derived.Test.YtmfjgehlkbndjaaGreatDoorKitAll
namespace Go.Proofs.YtmfjgehlkbndjaaGreatDoor
open Go.RowKit

end Go.Proofs.YtmfjgehlkbndjaaGreatDoor
