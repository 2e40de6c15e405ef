/-
  What the arguments are.
-/
import Derived.Test.YtdnhpfendflolaaAbsB
import Derived.Test.YtdnhpfendflolaaC1
namespace Go.Proofs.Ytdnhpfendflolaa.Abs
open Go.RowKit
end Go.Proofs.Ytdnhpfendflolaa.Abs
