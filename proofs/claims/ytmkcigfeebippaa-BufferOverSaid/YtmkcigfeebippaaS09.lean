/-
  The library's rows.
-/
import Derived.Test.YtmkcigfeebippaaT09
import Derived.Test.YtmkcigfeebippaaAbsD
namespace Go.Proofs.Ytmkcigfeebippaa.Abs
theorem m26_slices_Cloneo_m (xs : List GApiWrite) (h : xs.length * 56 ≤ 140737488355328) : m26_slices_Cloneo xs = some xs := by
  unfold m26_slices_Cloneo
  rw [if_pos (by simpa using h)]
  rfl

end Go.Proofs.Ytmkcigfeebippaa.Abs
