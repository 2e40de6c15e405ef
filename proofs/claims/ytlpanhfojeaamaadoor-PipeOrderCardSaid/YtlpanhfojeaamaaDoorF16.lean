/-
  What the arguments are.
-/
import Derived.Test.YtlpanhfojeaamaaDoorAbsC
import Derived.Test.YtlpanhfojeaamaaDoorT16
namespace Go.Proofs.YtlpanhfojeaamaaDoor.Abs
open Go.RowKit
end Go.Proofs.YtlpanhfojeaamaaDoor.Abs
