/-
  A slice of bytes that came in, as a list.
-/
import Derived.Test.YtmfjgehlkbndjaaDoorBytesKit
import Derived.OpenShut
import Derived.ChangeOld
import Derived.Deep.DeepHandedRow
import Derived.ShutString
import Derived.Below
namespace Go.Proofs.YtmfjgehlkbndjaaDoor
open Go.ChangeShapes Go.WideShapes Go.ChangeAt Go.RowKit Go

end Go.Proofs.YtmfjgehlkbndjaaDoor
