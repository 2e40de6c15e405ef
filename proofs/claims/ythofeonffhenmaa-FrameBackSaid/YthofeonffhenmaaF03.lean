/-
  What the arguments are.
-/
import Derived.Test.YthofeonffhenmaaAbsB
import Derived.Test.YthofeonffhenmaaT03
namespace Go.Proofs.Ythofeonffhenmaa.Abs
open Go.RowKit
end Go.Proofs.Ythofeonffhenmaa.Abs
