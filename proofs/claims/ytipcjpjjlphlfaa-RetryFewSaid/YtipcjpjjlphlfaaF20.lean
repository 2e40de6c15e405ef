/-
  What the arguments are.
-/
import Derived.Test.YtipcjpjjlphlfaaAbsC
import Derived.Test.YtipcjpjjlphlfaaT20
namespace Go.Proofs.Ytipcjpjjlphlfaa.Abs
open Go.RowKit
def QGR20Plan (x : GR20Plan) : Prop := (-9223372036854775808 ≤ x.Wait ∧ x.Wait ≤ 9223372036854775807) ∧ (-9223372036854775808 ≤ x.Most ∧ x.Most ≤ 9223372036854775807) ∧ (-9223372036854775808 ≤ x.Tries ∧ x.Tries ≤ 9223372036854775807)
theorem ft_GR20Plan {ls : List Lf} (h : Fits (.st (.pair (.int .i64) (.pair (.int .i64) (.pair (.int .i64) (.unit))))) ls) : ∃ x : GR20Plan, QGR20Plan x ∧ ls = eGR20Plan x := by
  obtain ⟨x0, y0, h0, ⟨x1, y1, h1, ⟨x2, y2, h2, hu, rfl⟩, rfl⟩, rfl⟩ := h
  obtain ⟨a0, q0, rfl⟩ := ft_i64 h0
  obtain ⟨a1, q1, rfl⟩ := ft_i64 h1
  obtain ⟨a2, q2, rfl⟩ := ft_i64 h2
  have hu : y2 = [] := hu
  subst hu
  exact ⟨⟨a0, a1, a2⟩, ⟨q0, q1, q2⟩, rfl⟩
end Go.Proofs.Ytipcjpjjlphlfaa.Abs
