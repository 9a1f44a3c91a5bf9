/-
  The walk of digest's Text: a hash in digits, its last byte first.
-/
import Derived.Test.YtmfjgehlkbndjaaDoorDigAll
import Derived.Test.YtmfjgehlkbndjaaDoorKitAll
namespace Go.Proofs.YtmfjgehlkbndjaaDoor
open Go.RowKit

end Go.Proofs.YtmfjgehlkbndjaaDoor
