/-
  What the arguments are.
-/
import Derived.Test.YtlnpkincpgbmcaaDoorAbsC
import Derived.Test.YtlnpkincpgbmcaaDoorT17
namespace Go.Proofs.YtlnpkincpgbmcaaDoor.Abs
open Go.RowKit
end Go.Proofs.YtlnpkincpgbmcaaDoor.Abs
