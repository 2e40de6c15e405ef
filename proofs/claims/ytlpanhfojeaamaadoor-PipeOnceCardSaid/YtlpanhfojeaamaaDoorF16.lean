/-
  What the arguments are.
-/
import Derived.Test.YtlpanhfojeaamaaDoorAbsC
import Derived.Test.YtlpanhfojeaamaaDoorT16
namespace Go.Proofs.YtlpanhfojeaamaaDoor.Abs
open Go.RowKit
def QGApiRange (x : GApiRange) : Prop := (x.Lo.length ≤ maxLen ∧ ∀ xy ∈ x.Lo, True) ∧ (x.Hi.length ≤ maxLen ∧ ∀ xy ∈ x.Hi, True) ∧ True
theorem ft_GApiRange {ls : List Lf} (h : Fits (.st (.pair (.sl (.int .u8)) (.pair (.sl (.int .u8)) (.pair (.bool) (.unit))))) ls) : ∃ x : GApiRange, QGApiRange x ∧ ls = eGApiRange x := by
  obtain ⟨x0, y0, h0, ⟨x1, y1, h1, ⟨x2, y2, h2, hu, rfl⟩, rfl⟩, rfl⟩ := h
  obtain ⟨a0, q0, rfl⟩ := (ft_sl (Q := fun (x : UInt8) => True) (fun h => ft_u8 h)) h0
  obtain ⟨a1, q1, rfl⟩ := (ft_sl (Q := fun (x : UInt8) => True) (fun h => ft_u8 h)) h1
  obtain ⟨a2, q2, rfl⟩ := ft_bool h2
  have hu : y2 = [] := hu
  subst hu
  exact ⟨⟨a0, a1, a2⟩, ⟨q0, q1, q2⟩, rfl⟩

def QGR05Req (x : GR05Req) : Prop := (-9223372036854775808 ≤ x.Kind ∧ x.Kind ≤ 9223372036854775807) ∧ (-9223372036854775808 ≤ x.Seq ∧ x.Seq ≤ 9223372036854775807) ∧ (-9223372036854775808 ≤ x.Token ∧ x.Token ≤ 9223372036854775807) ∧ (-9223372036854775808 ≤ x.Attempt ∧ x.Attempt ≤ 9223372036854775807) ∧ True ∧ (x.Key.length ≤ maxLen ∧ ∀ xy ∈ x.Key, True) ∧ (x.Val.length ≤ maxLen ∧ ∀ xy ∈ x.Val, True) ∧ QGApiRange x.Rng
theorem ft_GR05Req {ls : List Lf} (h : Fits (.st (.pair (.int .i64) (.pair (.int .i64) (.pair (.int .i64) (.pair (.int .i64) (.pair (.bool) (.pair (.sl (.int .u8)) (.pair (.sl (.int .u8)) (.pair (.st (.pair (.sl (.int .u8)) (.pair (.sl (.int .u8)) (.pair (.bool) (.unit))))) (.unit)))))))))) ls) : ∃ x : GR05Req, QGR05Req x ∧ ls = eGR05Req x := by
  obtain ⟨x0, y0, h0, ⟨x1, y1, h1, ⟨x2, y2, h2, ⟨x3, y3, h3, ⟨x4, y4, h4, ⟨x5, y5, h5, ⟨x6, y6, h6, ⟨x7, y7, h7, hu, rfl⟩, rfl⟩, rfl⟩, rfl⟩, rfl⟩, rfl⟩, rfl⟩, rfl⟩ := h
  obtain ⟨a0, q0, rfl⟩ := ft_i64 h0
  obtain ⟨a1, q1, rfl⟩ := ft_i64 h1
  obtain ⟨a2, q2, rfl⟩ := ft_i64 h2
  obtain ⟨a3, q3, rfl⟩ := ft_i64 h3
  obtain ⟨a4, q4, rfl⟩ := ft_bool h4
  obtain ⟨a5, q5, rfl⟩ := (ft_sl (Q := fun (x : UInt8) => True) (fun h => ft_u8 h)) h5
  obtain ⟨a6, q6, rfl⟩ := (ft_sl (Q := fun (x : UInt8) => True) (fun h => ft_u8 h)) h6
  obtain ⟨a7, q7, rfl⟩ := ft_GApiRange h7
  have hu : y7 = [] := hu
  subst hu
  exact ⟨⟨a0, a1, a2, a3, a4, a5, a6, a7⟩, ⟨q0, q1, q2, q3, q4, q5, q6, q7⟩, rfl⟩

def QGApiKV (x : GApiKV) : Prop := (x.Key.length ≤ maxLen ∧ ∀ xy ∈ x.Key, True) ∧ (x.Val.length ≤ maxLen ∧ ∀ xy ∈ x.Val, True)
theorem ft_GApiKV {ls : List Lf} (h : Fits (.st (.pair (.sl (.int .u8)) (.pair (.sl (.int .u8)) (.unit)))) ls) : ∃ x : GApiKV, QGApiKV x ∧ ls = eGApiKV x := by
  obtain ⟨x0, y0, h0, ⟨x1, y1, h1, hu, rfl⟩, rfl⟩ := h
  obtain ⟨a0, q0, rfl⟩ := (ft_sl (Q := fun (x : UInt8) => True) (fun h => ft_u8 h)) h0
  obtain ⟨a1, q1, rfl⟩ := (ft_sl (Q := fun (x : UInt8) => True) (fun h => ft_u8 h)) h1
  have hu : y1 = [] := hu
  subst hu
  exact ⟨⟨a0, a1⟩, ⟨q0, q1⟩, rfl⟩

def QGR05Reply (x : GR05Reply) : Prop := (-9223372036854775808 ≤ x.Kind ∧ x.Kind ≤ 9223372036854775807) ∧ (-9223372036854775808 ≤ x.Seq ∧ x.Seq ≤ 9223372036854775807) ∧ (-9223372036854775808 ≤ x.Code ∧ x.Code ≤ 9223372036854775807) ∧ (-9223372036854775808 ≤ x.N ∧ x.N ≤ 9223372036854775807) ∧ True ∧ (x.Val.length ≤ maxLen ∧ ∀ xy ∈ x.Val, True) ∧ (x.List.length ≤ maxLen ∧ ∀ xy ∈ x.List, QGApiKV xy)
theorem ft_GR05Reply {ls : List Lf} (h : Fits (.st (.pair (.int .i64) (.pair (.int .i64) (.pair (.int .i64) (.pair (.int .i64) (.pair (.bool) (.pair (.sl (.int .u8)) (.pair (.sl (.st (.pair (.sl (.int .u8)) (.pair (.sl (.int .u8)) (.unit))))) (.unit))))))))) ls) : ∃ x : GR05Reply, QGR05Reply x ∧ ls = eGR05Reply x := by
  obtain ⟨x0, y0, h0, ⟨x1, y1, h1, ⟨x2, y2, h2, ⟨x3, y3, h3, ⟨x4, y4, h4, ⟨x5, y5, h5, ⟨x6, y6, h6, hu, rfl⟩, rfl⟩, rfl⟩, rfl⟩, rfl⟩, rfl⟩, rfl⟩ := h
  obtain ⟨a0, q0, rfl⟩ := ft_i64 h0
  obtain ⟨a1, q1, rfl⟩ := ft_i64 h1
  obtain ⟨a2, q2, rfl⟩ := ft_i64 h2
  obtain ⟨a3, q3, rfl⟩ := ft_i64 h3
  obtain ⟨a4, q4, rfl⟩ := ft_bool h4
  obtain ⟨a5, q5, rfl⟩ := (ft_sl (Q := fun (x : UInt8) => True) (fun h => ft_u8 h)) h5
  obtain ⟨a6, q6, rfl⟩ := (ft_sl (Q := fun (x : GApiKV) => QGApiKV x) (fun h => ft_GApiKV h)) h6
  have hu : y6 = [] := hu
  subst hu
  exact ⟨⟨a0, a1, a2, a3, a4, a5, a6⟩, ⟨q0, q1, q2, q3, q4, q5, q6⟩, rfl⟩

def QGL16Act (x : GL16Act) : Prop := (-9223372036854775808 ≤ x.What ∧ x.What ≤ 9223372036854775807) ∧ QGR05Req x.Req ∧ QGR05Reply x.Reply
theorem ft_GL16Act {ls : List Lf} (h : Fits (.st (.pair (.int .i64) (.pair (.st (.pair (.int .i64) (.pair (.int .i64) (.pair (.int .i64) (.pair (.int .i64) (.pair (.bool) (.pair (.sl (.int .u8)) (.pair (.sl (.int .u8)) (.pair (.st (.pair (.sl (.int .u8)) (.pair (.sl (.int .u8)) (.pair (.bool) (.unit))))) (.unit)))))))))) (.pair (.st (.pair (.int .i64) (.pair (.int .i64) (.pair (.int .i64) (.pair (.int .i64) (.pair (.bool) (.pair (.sl (.int .u8)) (.pair (.sl (.st (.pair (.sl (.int .u8)) (.pair (.sl (.int .u8)) (.unit))))) (.unit))))))))) (.unit))))) ls) : ∃ x : GL16Act, QGL16Act x ∧ ls = eGL16Act x := by
  obtain ⟨x0, y0, h0, ⟨x1, y1, h1, ⟨x2, y2, h2, hu, rfl⟩, rfl⟩, rfl⟩ := h
  obtain ⟨a0, q0, rfl⟩ := ft_i64 h0
  obtain ⟨a1, q1, rfl⟩ := ft_GR05Req h1
  obtain ⟨a2, q2, rfl⟩ := ft_GR05Reply h2
  have hu : y2 = [] := hu
  subst hu
  exact ⟨⟨a0, a1, a2⟩, ⟨q0, q1, q2⟩, rfl⟩
end Go.Proofs.YtlpanhfojeaamaaDoor.Abs
