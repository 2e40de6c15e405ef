/-
  What the arguments are.
-/
import Derived.Test.YtoajiidocnoopaaAbsD
import Derived.Test.YtoajiidocnoopaaT24
namespace Go.Proofs.Ytoajiidocnoopaa.Abs
open Go.RowKit
def QGApiRange (x : GApiRange) : Prop := (x.Lo.length ≤ maxLen ∧ ∀ xy ∈ x.Lo, True) ∧ (x.Hi.length ≤ maxLen ∧ ∀ xy ∈ x.Hi, True) ∧ True
theorem ft_GApiRange {ls : List Lf} (h : Fits (.st (.pair (.sl (.int .u8)) (.pair (.sl (.int .u8)) (.pair (.bool) (.unit))))) ls) : ∃ x : GApiRange, QGApiRange x ∧ ls = eGApiRange x := by
  obtain ⟨x0, y0, h0, ⟨x1, y1, h1, ⟨x2, y2, h2, hu, rfl⟩, rfl⟩, rfl⟩ := h
  obtain ⟨a0, q0, rfl⟩ := (ft_sl (Q := fun (x : UInt8) => True) (fun h => ft_u8 h)) h0
  obtain ⟨a1, q1, rfl⟩ := (ft_sl (Q := fun (x : UInt8) => True) (fun h => ft_u8 h)) h1
  obtain ⟨a2, q2, rfl⟩ := ft_bool h2
  have hu : y2 = [] := hu
  subst hu
  exact ⟨⟨a0, a1, a2⟩, ⟨q0, q1, q2⟩, rfl⟩

def QGApiWrite (x : GApiWrite) : Prop := (x.Key.length ≤ maxLen ∧ ∀ xy ∈ x.Key, True) ∧ (x.Val.length ≤ maxLen ∧ ∀ xy ∈ x.Val, True) ∧ True
theorem ft_GApiWrite {ls : List Lf} (h : Fits (.st (.pair (.sl (.int .u8)) (.pair (.sl (.int .u8)) (.pair (.bool) (.unit))))) ls) : ∃ x : GApiWrite, QGApiWrite x ∧ ls = eGApiWrite x := by
  obtain ⟨x0, y0, h0, ⟨x1, y1, h1, ⟨x2, y2, h2, hu, rfl⟩, rfl⟩, rfl⟩ := h
  obtain ⟨a0, q0, rfl⟩ := (ft_sl (Q := fun (x : UInt8) => True) (fun h => ft_u8 h)) h0
  obtain ⟨a1, q1, rfl⟩ := (ft_sl (Q := fun (x : UInt8) => True) (fun h => ft_u8 h)) h1
  obtain ⟨a2, q2, rfl⟩ := ft_bool h2
  have hu : y2 = [] := hu
  subst hu
  exact ⟨⟨a0, a1, a2⟩, ⟨q0, q1, q2⟩, rfl⟩

def QGR24Tx (x : GR24Tx) : Prop := (-9223372036854775808 ≤ x.Token ∧ x.Token ≤ 9223372036854775807) ∧ (-9223372036854775808 ≤ x.Snap ∧ x.Snap ≤ 9223372036854775807) ∧ (-9223372036854775808 ≤ x.Ts ∧ x.Ts ≤ 9223372036854775807) ∧ (x.Reads.length ≤ maxLen ∧ ∀ xy ∈ x.Reads, QGApiRange xy) ∧ (x.Writes.length ≤ maxLen ∧ ∀ xy ∈ x.Writes, QGApiWrite xy)
theorem ft_GR24Tx {ls : List Lf} (h : Fits (.st (.pair (.int .i64) (.pair (.int .i64) (.pair (.int .i64) (.pair (.sl (.st (.pair (.sl (.int .u8)) (.pair (.sl (.int .u8)) (.pair (.bool) (.unit)))))) (.pair (.sl (.st (.pair (.sl (.int .u8)) (.pair (.sl (.int .u8)) (.pair (.bool) (.unit)))))) (.unit))))))) ls) : ∃ x : GR24Tx, QGR24Tx x ∧ ls = eGR24Tx x := by
  obtain ⟨x0, y0, h0, ⟨x1, y1, h1, ⟨x2, y2, h2, ⟨x3, y3, h3, ⟨x4, y4, h4, hu, rfl⟩, rfl⟩, rfl⟩, rfl⟩, rfl⟩ := h
  obtain ⟨a0, q0, rfl⟩ := ft_i64 h0
  obtain ⟨a1, q1, rfl⟩ := ft_i64 h1
  obtain ⟨a2, q2, rfl⟩ := ft_i64 h2
  obtain ⟨a3, q3, rfl⟩ := (ft_sl (Q := fun (x : GApiRange) => QGApiRange x) (fun h => ft_GApiRange h)) h3
  obtain ⟨a4, q4, rfl⟩ := (ft_sl (Q := fun (x : GApiWrite) => QGApiWrite x) (fun h => ft_GApiWrite h)) h4
  have hu : y4 = [] := hu
  subst hu
  exact ⟨⟨a0, a1, a2, a3, a4⟩, ⟨q0, q1, q2, q3, q4⟩, rfl⟩
end Go.Proofs.Ytoajiidocnoopaa.Abs
