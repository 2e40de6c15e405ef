/-
  What the arguments are.
-/
import Derived.Test.YtbmciegldpeaiaaAbsB
import Derived.Test.YtbmciegldpeaiaaT11
namespace Go.Proofs.Ytbmciegldpeaiaa.Abs
open Go.RowKit
def QGApiRange (x : GApiRange) : Prop := (x.Lo.length ≤ maxLen ∧ ∀ xy ∈ x.Lo, True) ∧ (x.Hi.length ≤ maxLen ∧ ∀ xy ∈ x.Hi, True) ∧ True
theorem ft_GApiRange {ls : List Lf} (h : Fits (.st (.pair (.sl (.int .u8)) (.pair (.sl (.int .u8)) (.pair (.bool) (.unit))))) ls) : ∃ x : GApiRange, QGApiRange x ∧ ls = eGApiRange x := by
  obtain ⟨x0, y0, h0, ⟨x1, y1, h1, ⟨x2, y2, h2, hu, rfl⟩, rfl⟩, rfl⟩ := h
  obtain ⟨a0, q0, rfl⟩ := (ft_sl (Q := fun (x : UInt8) => True) (fun h => ft_u8 h)) h0
  obtain ⟨a1, q1, rfl⟩ := (ft_sl (Q := fun (x : UInt8) => True) (fun h => ft_u8 h)) h1
  obtain ⟨a2, q2, rfl⟩ := ft_bool h2
  have hu : y2 = [] := hu
  subst hu
  exact ⟨⟨a0, a1, a2⟩, ⟨q0, q1, q2⟩, rfl⟩

def QGL11Act (x : GL11Act) : Prop := (-9223372036854775808 ≤ x.What ∧ x.What ≤ 9223372036854775807) ∧ (-9223372036854775808 ≤ x.N ∧ x.N ≤ 9223372036854775807) ∧ True ∧ QGApiRange x.Rng ∧ (x.Keys.length ≤ maxLen ∧ ∀ xy ∈ x.Keys, (xy.length ≤ maxLen ∧ ∀ xyy ∈ xy, True))
theorem ft_GL11Act {ls : List Lf} (h : Fits (.st (.pair (.int .i64) (.pair (.int .i64) (.pair (.bool) (.pair (.st (.pair (.sl (.int .u8)) (.pair (.sl (.int .u8)) (.pair (.bool) (.unit))))) (.pair (.sl (.sl (.int .u8))) (.unit))))))) ls) : ∃ x : GL11Act, QGL11Act x ∧ ls = eGL11Act x := by
  obtain ⟨x0, y0, h0, ⟨x1, y1, h1, ⟨x2, y2, h2, ⟨x3, y3, h3, ⟨x4, y4, h4, hu, rfl⟩, rfl⟩, rfl⟩, rfl⟩, rfl⟩ := h
  obtain ⟨a0, q0, rfl⟩ := ft_i64 h0
  obtain ⟨a1, q1, rfl⟩ := ft_i64 h1
  obtain ⟨a2, q2, rfl⟩ := ft_bool h2
  obtain ⟨a3, q3, rfl⟩ := ft_GApiRange h3
  obtain ⟨a4, q4, rfl⟩ := (ft_sl (Q := fun (x : List UInt8) => (x.length ≤ maxLen ∧ ∀ xy ∈ x, True)) (fun h => (ft_sl (Q := fun (x : UInt8) => True) (fun h => ft_u8 h)) h)) h4
  have hu : y4 = [] := hu
  subst hu
  exact ⟨⟨a0, a1, a2, a3, a4⟩, ⟨q0, q1, q2, q3, q4⟩, rfl⟩
end Go.Proofs.Ytbmciegldpeaiaa.Abs
