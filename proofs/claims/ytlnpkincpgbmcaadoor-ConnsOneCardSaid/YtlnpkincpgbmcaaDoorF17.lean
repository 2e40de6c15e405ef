/-
  What the arguments are.
-/
import Derived.Test.YtlnpkincpgbmcaaDoorAbsC
import Derived.Test.YtlnpkincpgbmcaaDoorT17
namespace Go.Proofs.YtlnpkincpgbmcaaDoor.Abs
open Go.RowKit
def QGL17Act (x : GL17Act) : Prop := (-9223372036854775808 ≤ x.What ∧ x.What ≤ 9223372036854775807) ∧ (-9223372036854775808 ≤ x.ID ∧ x.ID ≤ 9223372036854775807) ∧ (-9223372036854775808 ≤ x.Who ∧ x.Who ≤ 9223372036854775807) ∧ (-9223372036854775808 ≤ x.Epoch ∧ x.Epoch ≤ 9223372036854775807)
theorem ft_GL17Act {ls : List Lf} (h : Fits (.st (.pair (.int .i64) (.pair (.int .i64) (.pair (.int .i64) (.pair (.int .i64) (.unit)))))) ls) : ∃ x : GL17Act, QGL17Act x ∧ ls = eGL17Act x := by
  obtain ⟨x0, y0, h0, ⟨x1, y1, h1, ⟨x2, y2, h2, ⟨x3, y3, h3, hu, rfl⟩, rfl⟩, rfl⟩, rfl⟩ := h
  obtain ⟨a0, q0, rfl⟩ := ft_i64 h0
  obtain ⟨a1, q1, rfl⟩ := ft_i64 h1
  obtain ⟨a2, q2, rfl⟩ := ft_i64 h2
  obtain ⟨a3, q3, rfl⟩ := ft_i64 h3
  have hu : y3 = [] := hu
  subst hu
  exact ⟨⟨a0, a1, a2, a3⟩, ⟨q0, q1, q2, q3⟩, rfl⟩
end Go.Proofs.YtlnpkincpgbmcaaDoor.Abs
