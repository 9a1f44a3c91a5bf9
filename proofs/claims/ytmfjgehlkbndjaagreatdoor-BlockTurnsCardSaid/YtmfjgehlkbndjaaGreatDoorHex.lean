/-
  Plain facts on digits: a byte's two digits, and back.
-/
import Derived.Test.YtmfjgehlkbndjaaGreatDoorKitAll
namespace Go.Proofs.YtmfjgehlkbndjaaGreatDoor
open Go Go.RowKit

end Go.Proofs.YtmfjgehlkbndjaaGreatDoor
