/-
  What the arguments are.
-/
import Derived.Test.YtbaamfddahpemaaAbsC
import Derived.Test.YtbaamfddahpemaaT12
namespace Go.Proofs.Ytbaamfddahpemaa.Abs
open Go.RowKit
def QGL12Act (x : GL12Act) : Prop := (-9223372036854775808 ≤ x.What ∧ x.What ≤ 9223372036854775807) ∧ (-9223372036854775808 ≤ x.Tok ∧ x.Tok ≤ 9223372036854775807) ∧ (-9223372036854775808 ≤ x.Attempt ∧ x.Attempt ≤ 9223372036854775807)
theorem ft_GL12Act {ls : List Lf} (h : Fits (.st (.pair (.int .i64) (.pair (.int .i64) (.pair (.int .i64) (.unit))))) ls) : ∃ x : GL12Act, QGL12Act x ∧ ls = eGL12Act x := by
  obtain ⟨x0, y0, h0, ⟨x1, y1, h1, ⟨x2, y2, h2, hu, rfl⟩, rfl⟩, rfl⟩ := h
  obtain ⟨a0, q0, rfl⟩ := ft_i64 h0
  obtain ⟨a1, q1, rfl⟩ := ft_i64 h1
  obtain ⟨a2, q2, rfl⟩ := ft_i64 h2
  have hu : y2 = [] := hu
  subst hu
  exact ⟨⟨a0, a1, a2⟩, ⟨q0, q1, q2⟩, rfl⟩
end Go.Proofs.Ytbaamfddahpemaa.Abs
