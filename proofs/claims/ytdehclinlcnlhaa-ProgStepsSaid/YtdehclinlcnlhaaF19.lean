/-
  What the arguments are.
-/
import Derived.Test.YtdehclinlcnlhaaAbsC
import Derived.Test.YtdehclinlcnlhaaT19
namespace Go.Proofs.Ytdehclinlcnlhaa.Abs
open Go.RowKit
def QGApiRange (x : GApiRange) : Prop := (x.Lo.length ≤ maxLen ∧ ∀ xy ∈ x.Lo, True) ∧ (x.Hi.length ≤ maxLen ∧ ∀ xy ∈ x.Hi, True) ∧ True
theorem ft_GApiRange {ls : List Lf} (h : Fits (.st (.pair (.sl (.int .u8)) (.pair (.sl (.int .u8)) (.pair (.bool) (.unit))))) ls) : ∃ x : GApiRange, QGApiRange x ∧ ls = eGApiRange x := by
  obtain ⟨x0, y0, h0, ⟨x1, y1, h1, ⟨x2, y2, h2, hu, rfl⟩, rfl⟩, rfl⟩ := h
  obtain ⟨a0, q0, rfl⟩ := (ft_sl (Q := fun (x : UInt8) => True) (fun h => ft_u8 h)) h0
  obtain ⟨a1, q1, rfl⟩ := (ft_sl (Q := fun (x : UInt8) => True) (fun h => ft_u8 h)) h1
  obtain ⟨a2, q2, rfl⟩ := ft_bool h2
  have hu : y2 = [] := hu
  subst hu
  exact ⟨⟨a0, a1, a2⟩, ⟨q0, q1, q2⟩, rfl⟩

def QGR19Op (x : GR19Op) : Prop := (-9223372036854775808 ≤ x.What ∧ x.What ≤ 9223372036854775807) ∧ (-9223372036854775808 ≤ x.A ∧ x.A ≤ 9223372036854775807) ∧ (-9223372036854775808 ≤ x.B ∧ x.B ≤ 9223372036854775807) ∧ (-9223372036854775808 ≤ x.N ∧ x.N ≤ 9223372036854775807) ∧ (x.Key.length ≤ maxLen ∧ ∀ xy ∈ x.Key, True) ∧ QGApiRange x.Rng
theorem ft_GR19Op {ls : List Lf} (h : Fits (.st (.pair (.int .i64) (.pair (.int .i64) (.pair (.int .i64) (.pair (.int .i64) (.pair (.sl (.int .u8)) (.pair (.st (.pair (.sl (.int .u8)) (.pair (.sl (.int .u8)) (.pair (.bool) (.unit))))) (.unit)))))))) ls) : ∃ x : GR19Op, QGR19Op x ∧ ls = eGR19Op x := by
  obtain ⟨x0, y0, h0, ⟨x1, y1, h1, ⟨x2, y2, h2, ⟨x3, y3, h3, ⟨x4, y4, h4, ⟨x5, y5, h5, hu, rfl⟩, rfl⟩, rfl⟩, rfl⟩, rfl⟩, rfl⟩ := h
  obtain ⟨a0, q0, rfl⟩ := ft_i64 h0
  obtain ⟨a1, q1, rfl⟩ := ft_i64 h1
  obtain ⟨a2, q2, rfl⟩ := ft_i64 h2
  obtain ⟨a3, q3, rfl⟩ := ft_i64 h3
  obtain ⟨a4, q4, rfl⟩ := (ft_sl (Q := fun (x : UInt8) => True) (fun h => ft_u8 h)) h4
  obtain ⟨a5, q5, rfl⟩ := ft_GApiRange h5
  have hu : y5 = [] := hu
  subst hu
  exact ⟨⟨a0, a1, a2, a3, a4, a5⟩, ⟨q0, q1, q2, q3, q4, q5⟩, rfl⟩

def QGR19Prog (x : GR19Prog) : Prop := True ∧ (x.Ops.length ≤ maxLen ∧ ∀ xy ∈ x.Ops, QGR19Op xy)
theorem ft_GR19Prog {ls : List Lf} (h : Fits (.st (.pair (.bool) (.pair (.sl (.st (.pair (.int .i64) (.pair (.int .i64) (.pair (.int .i64) (.pair (.int .i64) (.pair (.sl (.int .u8)) (.pair (.st (.pair (.sl (.int .u8)) (.pair (.sl (.int .u8)) (.pair (.bool) (.unit))))) (.unit))))))))) (.unit)))) ls) : ∃ x : GR19Prog, QGR19Prog x ∧ ls = eGR19Prog x := by
  obtain ⟨x0, y0, h0, ⟨x1, y1, h1, hu, rfl⟩, rfl⟩ := h
  obtain ⟨a0, q0, rfl⟩ := ft_bool h0
  obtain ⟨a1, q1, rfl⟩ := (ft_sl (Q := fun (x : GR19Op) => QGR19Op x) (fun h => ft_GR19Op h)) h1
  have hu : y1 = [] := hu
  subst hu
  exact ⟨⟨a0, a1⟩, ⟨q0, q1⟩, rfl⟩

def QGApiKV (x : GApiKV) : Prop := (x.Key.length ≤ maxLen ∧ ∀ xy ∈ x.Key, True) ∧ (x.Val.length ≤ maxLen ∧ ∀ xy ∈ x.Val, True)
theorem ft_GApiKV {ls : List Lf} (h : Fits (.st (.pair (.sl (.int .u8)) (.pair (.sl (.int .u8)) (.unit)))) ls) : ∃ x : GApiKV, QGApiKV x ∧ ls = eGApiKV x := by
  obtain ⟨x0, y0, h0, ⟨x1, y1, h1, hu, rfl⟩, rfl⟩ := h
  obtain ⟨a0, q0, rfl⟩ := (ft_sl (Q := fun (x : UInt8) => True) (fun h => ft_u8 h)) h0
  obtain ⟨a1, q1, rfl⟩ := (ft_sl (Q := fun (x : UInt8) => True) (fun h => ft_u8 h)) h1
  have hu : y1 = [] := hu
  subst hu
  exact ⟨⟨a0, a1⟩, ⟨q0, q1⟩, rfl⟩
end Go.Proofs.Ytdehclinlcnlhaa.Abs
