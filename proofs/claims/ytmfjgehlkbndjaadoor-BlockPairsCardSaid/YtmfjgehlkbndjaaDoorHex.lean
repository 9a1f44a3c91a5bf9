/-
  Plain facts on digits: a byte's two digits, and back.
-/
import Derived.Test.YtmfjgehlkbndjaaDoorKitAll
namespace Go.Proofs.YtmfjgehlkbndjaaDoor
open Go Go.RowKit

end Go.Proofs.YtmfjgehlkbndjaaDoor
