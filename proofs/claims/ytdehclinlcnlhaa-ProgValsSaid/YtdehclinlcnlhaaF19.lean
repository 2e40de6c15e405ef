/-
  What the arguments are.
-/
import Derived.Test.YtdehclinlcnlhaaAbsC
import Derived.Test.YtdehclinlcnlhaaT19
namespace Go.Proofs.Ytdehclinlcnlhaa.Abs
open Go.RowKit
end Go.Proofs.Ytdehclinlcnlhaa.Abs
