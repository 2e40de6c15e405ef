/-
  What the arguments are.
-/
import Derived.Test.YtbojepclnfnmcaaAbsC
import Derived.Test.YtbojepclnfnmcaaT08
namespace Go.Proofs.Ytbojepclnfnmcaa.Abs
open Go.RowKit
def QGR07Ver (x : GR07Ver) : Prop := (-9223372036854775808 ≤ x.Ts ∧ x.Ts ≤ 9223372036854775807) ∧ (x.Val.length ≤ maxLen ∧ ∀ xy ∈ x.Val, True) ∧ True
theorem ft_GR07Ver {ls : List Lf} (h : Fits (.st (.pair (.int .i64) (.pair (.sl (.int .u8)) (.pair (.bool) (.unit))))) ls) : ∃ x : GR07Ver, QGR07Ver x ∧ ls = eGR07Ver x := by
  obtain ⟨x0, y0, h0, ⟨x1, y1, h1, ⟨x2, y2, h2, hu, rfl⟩, rfl⟩, rfl⟩ := h
  obtain ⟨a0, q0, rfl⟩ := ft_i64 h0
  obtain ⟨a1, q1, rfl⟩ := (ft_sl (Q := fun (x : UInt8) => True) (fun h => ft_u8 h)) h1
  obtain ⟨a2, q2, rfl⟩ := ft_bool h2
  have hu : y2 = [] := hu
  subst hu
  exact ⟨⟨a0, a1, a2⟩, ⟨q0, q1, q2⟩, rfl⟩

def QGR07Chain (x : GR07Chain) : Prop := (x.L.length ≤ maxLen ∧ ∀ xy ∈ x.L, QGR07Ver xy)
theorem ft_GR07Chain {ls : List Lf} (h : Fits (.st (.pair (.sl (.st (.pair (.int .i64) (.pair (.sl (.int .u8)) (.pair (.bool) (.unit)))))) (.unit))) ls) : ∃ x : GR07Chain, QGR07Chain x ∧ ls = eGR07Chain x := by
  obtain ⟨x0, y0, h0, hu, rfl⟩ := h
  obtain ⟨a0, q0, rfl⟩ := (ft_sl (Q := fun (x : GR07Ver) => QGR07Ver x) (fun h => ft_GR07Ver h)) h0
  have hu : y0 = [] := hu
  subst hu
  exact ⟨⟨a0⟩, q0, rfl⟩

def QGR08Store (x : GR08Store) : Prop := (x.Keys.length ≤ maxLen ∧ ∀ xy ∈ x.Keys, (xy.length ≤ maxLen ∧ ∀ xyy ∈ xy, True)) ∧ (x.Chains.length ≤ maxLen ∧ ∀ xy ∈ x.Chains, QGR07Chain xy) ∧ (-9223372036854775808 ≤ x.Ts ∧ x.Ts ≤ 9223372036854775807)
theorem ft_GR08Store {ls : List Lf} (h : Fits (.st (.pair (.sl (.sl (.int .u8))) (.pair (.sl (.st (.pair (.sl (.st (.pair (.int .i64) (.pair (.sl (.int .u8)) (.pair (.bool) (.unit)))))) (.unit)))) (.pair (.int .i64) (.unit))))) ls) : ∃ x : GR08Store, QGR08Store x ∧ ls = eGR08Store x := by
  obtain ⟨x0, y0, h0, ⟨x1, y1, h1, ⟨x2, y2, h2, hu, rfl⟩, rfl⟩, rfl⟩ := h
  obtain ⟨a0, q0, rfl⟩ := (ft_sl (Q := fun (x : List UInt8) => (x.length ≤ maxLen ∧ ∀ xy ∈ x, True)) (fun h => (ft_sl (Q := fun (x : UInt8) => True) (fun h => ft_u8 h)) h)) h0
  obtain ⟨a1, q1, rfl⟩ := (ft_sl (Q := fun (x : GR07Chain) => QGR07Chain x) (fun h => ft_GR07Chain h)) h1
  obtain ⟨a2, q2, rfl⟩ := ft_i64 h2
  have hu : y2 = [] := hu
  subst hu
  exact ⟨⟨a0, a1, a2⟩, ⟨q0, q1, q2⟩, rfl⟩

def QGApiRange (x : GApiRange) : Prop := (x.Lo.length ≤ maxLen ∧ ∀ xy ∈ x.Lo, True) ∧ (x.Hi.length ≤ maxLen ∧ ∀ xy ∈ x.Hi, True) ∧ True
theorem ft_GApiRange {ls : List Lf} (h : Fits (.st (.pair (.sl (.int .u8)) (.pair (.sl (.int .u8)) (.pair (.bool) (.unit))))) ls) : ∃ x : GApiRange, QGApiRange x ∧ ls = eGApiRange x := by
  obtain ⟨x0, y0, h0, ⟨x1, y1, h1, ⟨x2, y2, h2, hu, rfl⟩, rfl⟩, rfl⟩ := h
  obtain ⟨a0, q0, rfl⟩ := (ft_sl (Q := fun (x : UInt8) => True) (fun h => ft_u8 h)) h0
  obtain ⟨a1, q1, rfl⟩ := (ft_sl (Q := fun (x : UInt8) => True) (fun h => ft_u8 h)) h1
  obtain ⟨a2, q2, rfl⟩ := ft_bool h2
  have hu : y2 = [] := hu
  subst hu
  exact ⟨⟨a0, a1, a2⟩, ⟨q0, q1, q2⟩, rfl⟩

def QGApiWrite (x : GApiWrite) : Prop := (x.Key.length ≤ maxLen ∧ ∀ xy ∈ x.Key, True) ∧ (x.Val.length ≤ maxLen ∧ ∀ xy ∈ x.Val, True) ∧ True
theorem ft_GApiWrite {ls : List Lf} (h : Fits (.st (.pair (.sl (.int .u8)) (.pair (.sl (.int .u8)) (.pair (.bool) (.unit))))) ls) : ∃ x : GApiWrite, QGApiWrite x ∧ ls = eGApiWrite x := by
  obtain ⟨x0, y0, h0, ⟨x1, y1, h1, ⟨x2, y2, h2, hu, rfl⟩, rfl⟩, rfl⟩ := h
  obtain ⟨a0, q0, rfl⟩ := (ft_sl (Q := fun (x : UInt8) => True) (fun h => ft_u8 h)) h0
  obtain ⟨a1, q1, rfl⟩ := (ft_sl (Q := fun (x : UInt8) => True) (fun h => ft_u8 h)) h1
  obtain ⟨a2, q2, rfl⟩ := ft_bool h2
  have hu : y2 = [] := hu
  subst hu
  exact ⟨⟨a0, a1, a2⟩, ⟨q0, q1, q2⟩, rfl⟩
end Go.Proofs.Ytbojepclnfnmcaa.Abs
