/-
  What the arguments are.
-/
import Derived.Test.YtkbkpafidgfhdaaAbsB
import Derived.Test.YtkbkpafidgfhdaaT10
namespace Go.Proofs.Ytkbkpafidgfhdaa.Abs
open Go.RowKit
def QGApiRange (x : GApiRange) : Prop := (x.Lo.length ≤ maxLen ∧ ∀ xy ∈ x.Lo, True) ∧ (x.Hi.length ≤ maxLen ∧ ∀ xy ∈ x.Hi, True) ∧ True
theorem ft_GApiRange {ls : List Lf} (h : Fits (.st (.pair (.sl (.int .u8)) (.pair (.sl (.int .u8)) (.pair (.bool) (.unit))))) ls) : ∃ x : GApiRange, QGApiRange x ∧ ls = eGApiRange x := by
  obtain ⟨x0, y0, h0, ⟨x1, y1, h1, ⟨x2, y2, h2, hu, rfl⟩, rfl⟩, rfl⟩ := h
  obtain ⟨a0, q0, rfl⟩ := (ft_sl (Q := fun (x : UInt8) => True) (fun h => ft_u8 h)) h0
  obtain ⟨a1, q1, rfl⟩ := (ft_sl (Q := fun (x : UInt8) => True) (fun h => ft_u8 h)) h1
  obtain ⟨a2, q2, rfl⟩ := ft_bool h2
  have hu : y2 = [] := hu
  subst hu
  exact ⟨⟨a0, a1, a2⟩, ⟨q0, q1, q2⟩, rfl⟩

def QGR10Read (x : GR10Read) : Prop := (-9223372036854775808 ≤ x.Tx ∧ x.Tx ≤ 9223372036854775807) ∧ QGApiRange x.Rng
theorem ft_GR10Read {ls : List Lf} (h : Fits (.st (.pair (.int .i64) (.pair (.st (.pair (.sl (.int .u8)) (.pair (.sl (.int .u8)) (.pair (.bool) (.unit))))) (.unit)))) ls) : ∃ x : GR10Read, QGR10Read x ∧ ls = eGR10Read x := by
  obtain ⟨x0, y0, h0, ⟨x1, y1, h1, hu, rfl⟩, rfl⟩ := h
  obtain ⟨a0, q0, rfl⟩ := ft_i64 h0
  obtain ⟨a1, q1, rfl⟩ := ft_GApiRange h1
  have hu : y1 = [] := hu
  subst hu
  exact ⟨⟨a0, a1⟩, ⟨q0, q1⟩, rfl⟩

def QGR10Table (x : GR10Table) : Prop := (x.L.length ≤ maxLen ∧ ∀ xy ∈ x.L, QGR10Read xy)
theorem ft_GR10Table {ls : List Lf} (h : Fits (.st (.pair (.sl (.st (.pair (.int .i64) (.pair (.st (.pair (.sl (.int .u8)) (.pair (.sl (.int .u8)) (.pair (.bool) (.unit))))) (.unit))))) (.unit))) ls) : ∃ x : GR10Table, QGR10Table x ∧ ls = eGR10Table x := by
  obtain ⟨x0, y0, h0, hu, rfl⟩ := h
  obtain ⟨a0, q0, rfl⟩ := (ft_sl (Q := fun (x : GR10Read) => QGR10Read x) (fun h => ft_GR10Read h)) h0
  have hu : y0 = [] := hu
  subst hu
  exact ⟨⟨a0⟩, q0, rfl⟩
end Go.Proofs.Ytkbkpafidgfhdaa.Abs
