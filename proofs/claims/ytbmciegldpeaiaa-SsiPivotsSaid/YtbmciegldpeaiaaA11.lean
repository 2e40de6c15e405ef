/-
  Proofs.
-/
import Derived.Test.YtbmciegldpeaiaaT11
import Derived.Test.YtbmciegldpeaiaaAbsC
namespace Go.Proofs.Ytbmciegldpeaiaa.Abs

theorem awake11 : m9_l11_awake = some true := by decide +kernel
end Go.Proofs.Ytbmciegldpeaiaa.Abs
