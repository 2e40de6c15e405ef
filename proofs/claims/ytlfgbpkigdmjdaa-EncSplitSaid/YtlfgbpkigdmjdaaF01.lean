/-
  What the arguments are.
-/
import Derived.Test.YtlfgbpkigdmjdaaAbsB
import Derived.Test.YtlfgbpkigdmjdaaC01
namespace Go.Proofs.Ytlfgbpkigdmjdaa.Abs
open Go.RowKit
end Go.Proofs.Ytlfgbpkigdmjdaa.Abs
