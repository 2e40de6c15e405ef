/-
  What the arguments are.
-/
import Derived.Test.YtlfgbpkigdmjdaaAbsC
import Derived.Test.YtlfgbpkigdmjdaaT01
namespace Go.Proofs.Ytlfgbpkigdmjdaa.Abs
open Go.RowKit
def QGL01Step (x : GL01Step) : Prop := (-9223372036854775808 ≤ x.What ∧ x.What ≤ 9223372036854775807) ∧ (-9223372036854775808 ≤ x.N ∧ x.N ≤ 9223372036854775807)
theorem ft_GL01Step {ls : List Lf} (h : Fits (.st (.pair (.int .i64) (.pair (.int .i64) (.unit)))) ls) : ∃ x : GL01Step, QGL01Step x ∧ ls = eGL01Step x := by
  obtain ⟨x0, y0, h0, ⟨x1, y1, h1, hu, rfl⟩, rfl⟩ := h
  obtain ⟨a0, q0, rfl⟩ := ft_i64 h0
  obtain ⟨a1, q1, rfl⟩ := ft_i64 h1
  have hu : y1 = [] := hu
  subst hu
  exact ⟨⟨a0, a1⟩, ⟨q0, q1⟩, rfl⟩
end Go.Proofs.Ytlfgbpkigdmjdaa.Abs
