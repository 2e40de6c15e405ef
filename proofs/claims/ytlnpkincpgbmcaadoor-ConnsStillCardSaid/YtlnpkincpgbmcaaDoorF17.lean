/-
  What the arguments are.
-/
import Derived.Test.YtlnpkincpgbmcaaDoorAbsC
import Derived.Test.YtlnpkincpgbmcaaDoorT17
namespace Go.Proofs.YtlnpkincpgbmcaaDoor.Abs
open Go.RowKit
def QGR04Stream (x : GR04Stream) : Prop := (x.Buf.length ≤ maxLen ∧ ∀ xy ∈ x.Buf, True) ∧ (-9223372036854775808 ≤ x.Dead ∧ x.Dead ≤ 9223372036854775807)
theorem ft_GR04Stream {ls : List Lf} (h : Fits (.st (.pair (.sl (.int .u8)) (.pair (.int .i64) (.unit)))) ls) : ∃ x : GR04Stream, QGR04Stream x ∧ ls = eGR04Stream x := by
  obtain ⟨x0, y0, h0, ⟨x1, y1, h1, hu, rfl⟩, rfl⟩ := h
  obtain ⟨a0, q0, rfl⟩ := (ft_sl (Q := fun (x : UInt8) => True) (fun h => ft_u8 h)) h0
  obtain ⟨a1, q1, rfl⟩ := ft_i64 h1
  have hu : y1 = [] := hu
  subst hu
  exact ⟨⟨a0, a1⟩, ⟨q0, q1⟩, rfl⟩

def QGR15Window (x : GR15Window) : Prop := (-9223372036854775808 ≤ x.Base ∧ x.Base ≤ 9223372036854775807) ∧ True
theorem ft_GR15Window {ls : List Lf} (h : Fits (.st (.pair (.int .i64) (.pair (.int .u64) (.unit)))) ls) : ∃ x : GR15Window, QGR15Window x ∧ ls = eGR15Window x := by
  obtain ⟨x0, y0, h0, ⟨x1, y1, h1, hu, rfl⟩, rfl⟩ := h
  obtain ⟨a0, q0, rfl⟩ := ft_i64 h0
  obtain ⟨a1, q1, rfl⟩ := ft_u64 h1
  have hu : y1 = [] := hu
  subst hu
  exact ⟨⟨a0, a1⟩, ⟨q0, q1⟩, rfl⟩

def QGApiRange (x : GApiRange) : Prop := (x.Lo.length ≤ maxLen ∧ ∀ xy ∈ x.Lo, True) ∧ (x.Hi.length ≤ maxLen ∧ ∀ xy ∈ x.Hi, True) ∧ True
theorem ft_GApiRange {ls : List Lf} (h : Fits (.st (.pair (.sl (.int .u8)) (.pair (.sl (.int .u8)) (.pair (.bool) (.unit))))) ls) : ∃ x : GApiRange, QGApiRange x ∧ ls = eGApiRange x := by
  obtain ⟨x0, y0, h0, ⟨x1, y1, h1, ⟨x2, y2, h2, hu, rfl⟩, rfl⟩, rfl⟩ := h
  obtain ⟨a0, q0, rfl⟩ := (ft_sl (Q := fun (x : UInt8) => True) (fun h => ft_u8 h)) h0
  obtain ⟨a1, q1, rfl⟩ := (ft_sl (Q := fun (x : UInt8) => True) (fun h => ft_u8 h)) h1
  obtain ⟨a2, q2, rfl⟩ := ft_bool h2
  have hu : y2 = [] := hu
  subst hu
  exact ⟨⟨a0, a1, a2⟩, ⟨q0, q1, q2⟩, rfl⟩

def QGR05Req (x : GR05Req) : Prop := (-9223372036854775808 ≤ x.Kind ∧ x.Kind ≤ 9223372036854775807) ∧ (-9223372036854775808 ≤ x.Seq ∧ x.Seq ≤ 9223372036854775807) ∧ (-9223372036854775808 ≤ x.Token ∧ x.Token ≤ 9223372036854775807) ∧ (-9223372036854775808 ≤ x.Attempt ∧ x.Attempt ≤ 9223372036854775807) ∧ True ∧ (x.Key.length ≤ maxLen ∧ ∀ xy ∈ x.Key, True) ∧ (x.Val.length ≤ maxLen ∧ ∀ xy ∈ x.Val, True) ∧ QGApiRange x.Rng
theorem ft_GR05Req {ls : List Lf} (h : Fits (.st (.pair (.int .i64) (.pair (.int .i64) (.pair (.int .i64) (.pair (.int .i64) (.pair (.bool) (.pair (.sl (.int .u8)) (.pair (.sl (.int .u8)) (.pair (.st (.pair (.sl (.int .u8)) (.pair (.sl (.int .u8)) (.pair (.bool) (.unit))))) (.unit)))))))))) ls) : ∃ x : GR05Req, QGR05Req x ∧ ls = eGR05Req x := by
  obtain ⟨x0, y0, h0, ⟨x1, y1, h1, ⟨x2, y2, h2, ⟨x3, y3, h3, ⟨x4, y4, h4, ⟨x5, y5, h5, ⟨x6, y6, h6, ⟨x7, y7, h7, hu, rfl⟩, rfl⟩, rfl⟩, rfl⟩, rfl⟩, rfl⟩, rfl⟩, rfl⟩ := h
  obtain ⟨a0, q0, rfl⟩ := ft_i64 h0
  obtain ⟨a1, q1, rfl⟩ := ft_i64 h1
  obtain ⟨a2, q2, rfl⟩ := ft_i64 h2
  obtain ⟨a3, q3, rfl⟩ := ft_i64 h3
  obtain ⟨a4, q4, rfl⟩ := ft_bool h4
  obtain ⟨a5, q5, rfl⟩ := (ft_sl (Q := fun (x : UInt8) => True) (fun h => ft_u8 h)) h5
  obtain ⟨a6, q6, rfl⟩ := (ft_sl (Q := fun (x : UInt8) => True) (fun h => ft_u8 h)) h6
  obtain ⟨a7, q7, rfl⟩ := ft_GApiRange h7
  have hu : y7 = [] := hu
  subst hu
  exact ⟨⟨a0, a1, a2, a3, a4, a5, a6, a7⟩, ⟨q0, q1, q2, q3, q4, q5, q6, q7⟩, rfl⟩

def QGApiKV (x : GApiKV) : Prop := (x.Key.length ≤ maxLen ∧ ∀ xy ∈ x.Key, True) ∧ (x.Val.length ≤ maxLen ∧ ∀ xy ∈ x.Val, True)
theorem ft_GApiKV {ls : List Lf} (h : Fits (.st (.pair (.sl (.int .u8)) (.pair (.sl (.int .u8)) (.unit)))) ls) : ∃ x : GApiKV, QGApiKV x ∧ ls = eGApiKV x := by
  obtain ⟨x0, y0, h0, ⟨x1, y1, h1, hu, rfl⟩, rfl⟩ := h
  obtain ⟨a0, q0, rfl⟩ := (ft_sl (Q := fun (x : UInt8) => True) (fun h => ft_u8 h)) h0
  obtain ⟨a1, q1, rfl⟩ := (ft_sl (Q := fun (x : UInt8) => True) (fun h => ft_u8 h)) h1
  have hu : y1 = [] := hu
  subst hu
  exact ⟨⟨a0, a1⟩, ⟨q0, q1⟩, rfl⟩

def QGR05Reply (x : GR05Reply) : Prop := (-9223372036854775808 ≤ x.Kind ∧ x.Kind ≤ 9223372036854775807) ∧ (-9223372036854775808 ≤ x.Seq ∧ x.Seq ≤ 9223372036854775807) ∧ (-9223372036854775808 ≤ x.Code ∧ x.Code ≤ 9223372036854775807) ∧ (-9223372036854775808 ≤ x.N ∧ x.N ≤ 9223372036854775807) ∧ True ∧ (x.Val.length ≤ maxLen ∧ ∀ xy ∈ x.Val, True) ∧ (x.List.length ≤ maxLen ∧ ∀ xy ∈ x.List, QGApiKV xy)
theorem ft_GR05Reply {ls : List Lf} (h : Fits (.st (.pair (.int .i64) (.pair (.int .i64) (.pair (.int .i64) (.pair (.int .i64) (.pair (.bool) (.pair (.sl (.int .u8)) (.pair (.sl (.st (.pair (.sl (.int .u8)) (.pair (.sl (.int .u8)) (.unit))))) (.unit))))))))) ls) : ∃ x : GR05Reply, QGR05Reply x ∧ ls = eGR05Reply x := by
  obtain ⟨x0, y0, h0, ⟨x1, y1, h1, ⟨x2, y2, h2, ⟨x3, y3, h3, ⟨x4, y4, h4, ⟨x5, y5, h5, ⟨x6, y6, h6, hu, rfl⟩, rfl⟩, rfl⟩, rfl⟩, rfl⟩, rfl⟩, rfl⟩ := h
  obtain ⟨a0, q0, rfl⟩ := ft_i64 h0
  obtain ⟨a1, q1, rfl⟩ := ft_i64 h1
  obtain ⟨a2, q2, rfl⟩ := ft_i64 h2
  obtain ⟨a3, q3, rfl⟩ := ft_i64 h3
  obtain ⟨a4, q4, rfl⟩ := ft_bool h4
  obtain ⟨a5, q5, rfl⟩ := (ft_sl (Q := fun (x : UInt8) => True) (fun h => ft_u8 h)) h5
  obtain ⟨a6, q6, rfl⟩ := (ft_sl (Q := fun (x : GApiKV) => QGApiKV x) (fun h => ft_GApiKV h)) h6
  have hu : y6 = [] := hu
  subst hu
  exact ⟨⟨a0, a1, a2, a3, a4, a5, a6⟩, ⟨q0, q1, q2, q3, q4, q5, q6⟩, rfl⟩

def QGR16Pipe (x : GR16Pipe) : Prop := QGR15Window x.Win ∧ (-9223372036854775808 ≤ x.Next ∧ x.Next ≤ 9223372036854775807) ∧ (x.Wait.length ≤ maxLen ∧ ∀ xy ∈ x.Wait, QGR05Req xy) ∧ (x.Past.length ≤ maxLen ∧ ∀ xy ∈ x.Past, QGR05Reply xy)
theorem ft_GR16Pipe {ls : List Lf} (h : Fits (.st (.pair (.st (.pair (.int .i64) (.pair (.int .u64) (.unit)))) (.pair (.int .i64) (.pair (.sl (.st (.pair (.int .i64) (.pair (.int .i64) (.pair (.int .i64) (.pair (.int .i64) (.pair (.bool) (.pair (.sl (.int .u8)) (.pair (.sl (.int .u8)) (.pair (.st (.pair (.sl (.int .u8)) (.pair (.sl (.int .u8)) (.pair (.bool) (.unit))))) (.unit))))))))))) (.pair (.sl (.st (.pair (.int .i64) (.pair (.int .i64) (.pair (.int .i64) (.pair (.int .i64) (.pair (.bool) (.pair (.sl (.int .u8)) (.pair (.sl (.st (.pair (.sl (.int .u8)) (.pair (.sl (.int .u8)) (.unit))))) (.unit)))))))))) (.unit)))))) ls) : ∃ x : GR16Pipe, QGR16Pipe x ∧ ls = eGR16Pipe x := by
  obtain ⟨x0, y0, h0, ⟨x1, y1, h1, ⟨x2, y2, h2, ⟨x3, y3, h3, hu, rfl⟩, rfl⟩, rfl⟩, rfl⟩ := h
  obtain ⟨a0, q0, rfl⟩ := ft_GR15Window h0
  obtain ⟨a1, q1, rfl⟩ := ft_i64 h1
  obtain ⟨a2, q2, rfl⟩ := (ft_sl (Q := fun (x : GR05Req) => QGR05Req x) (fun h => ft_GR05Req h)) h2
  obtain ⟨a3, q3, rfl⟩ := (ft_sl (Q := fun (x : GR05Reply) => QGR05Reply x) (fun h => ft_GR05Reply h)) h3
  have hu : y3 = [] := hu
  subst hu
  exact ⟨⟨a0, a1, a2, a3⟩, ⟨q0, q1, q2, q3⟩, rfl⟩

def QGR17Conn (x : GR17Conn) : Prop := (-9223372036854775808 ≤ x.ID ∧ x.ID ≤ 9223372036854775807) ∧ (-9223372036854775808 ≤ x.Who ∧ x.Who ≤ 9223372036854775807) ∧ (-9223372036854775808 ≤ x.Epoch ∧ x.Epoch ≤ 9223372036854775807) ∧ (-9223372036854775808 ≤ x.Tx ∧ x.Tx ≤ 9223372036854775807) ∧ QGR04Stream x.Stream ∧ QGR16Pipe x.Pipe
theorem ft_GR17Conn {ls : List Lf} (h : Fits (.st (.pair (.int .i64) (.pair (.int .i64) (.pair (.int .i64) (.pair (.int .i64) (.pair (.st (.pair (.sl (.int .u8)) (.pair (.int .i64) (.unit)))) (.pair (.st (.pair (.st (.pair (.int .i64) (.pair (.int .u64) (.unit)))) (.pair (.int .i64) (.pair (.sl (.st (.pair (.int .i64) (.pair (.int .i64) (.pair (.int .i64) (.pair (.int .i64) (.pair (.bool) (.pair (.sl (.int .u8)) (.pair (.sl (.int .u8)) (.pair (.st (.pair (.sl (.int .u8)) (.pair (.sl (.int .u8)) (.pair (.bool) (.unit))))) (.unit))))))))))) (.pair (.sl (.st (.pair (.int .i64) (.pair (.int .i64) (.pair (.int .i64) (.pair (.int .i64) (.pair (.bool) (.pair (.sl (.int .u8)) (.pair (.sl (.st (.pair (.sl (.int .u8)) (.pair (.sl (.int .u8)) (.unit))))) (.unit)))))))))) (.unit)))))) (.unit)))))))) ls) : ∃ x : GR17Conn, QGR17Conn x ∧ ls = eGR17Conn x := by
  obtain ⟨x0, y0, h0, ⟨x1, y1, h1, ⟨x2, y2, h2, ⟨x3, y3, h3, ⟨x4, y4, h4, ⟨x5, y5, h5, hu, rfl⟩, rfl⟩, rfl⟩, rfl⟩, rfl⟩, rfl⟩ := h
  obtain ⟨a0, q0, rfl⟩ := ft_i64 h0
  obtain ⟨a1, q1, rfl⟩ := ft_i64 h1
  obtain ⟨a2, q2, rfl⟩ := ft_i64 h2
  obtain ⟨a3, q3, rfl⟩ := ft_i64 h3
  obtain ⟨a4, q4, rfl⟩ := ft_GR04Stream h4
  obtain ⟨a5, q5, rfl⟩ := ft_GR16Pipe h5
  have hu : y5 = [] := hu
  subst hu
  exact ⟨⟨a0, a1, a2, a3, a4, a5⟩, ⟨q0, q1, q2, q3, q4, q5⟩, rfl⟩

def QGR17Table (x : GR17Table) : Prop := (x.L.length ≤ maxLen ∧ ∀ xy ∈ x.L, QGR17Conn xy) ∧ (-9223372036854775808 ≤ x.Next ∧ x.Next ≤ 9223372036854775807)
theorem ft_GR17Table {ls : List Lf} (h : Fits (.st (.pair (.sl (.st (.pair (.int .i64) (.pair (.int .i64) (.pair (.int .i64) (.pair (.int .i64) (.pair (.st (.pair (.sl (.int .u8)) (.pair (.int .i64) (.unit)))) (.pair (.st (.pair (.st (.pair (.int .i64) (.pair (.int .u64) (.unit)))) (.pair (.int .i64) (.pair (.sl (.st (.pair (.int .i64) (.pair (.int .i64) (.pair (.int .i64) (.pair (.int .i64) (.pair (.bool) (.pair (.sl (.int .u8)) (.pair (.sl (.int .u8)) (.pair (.st (.pair (.sl (.int .u8)) (.pair (.sl (.int .u8)) (.pair (.bool) (.unit))))) (.unit))))))))))) (.pair (.sl (.st (.pair (.int .i64) (.pair (.int .i64) (.pair (.int .i64) (.pair (.int .i64) (.pair (.bool) (.pair (.sl (.int .u8)) (.pair (.sl (.st (.pair (.sl (.int .u8)) (.pair (.sl (.int .u8)) (.unit))))) (.unit)))))))))) (.unit)))))) (.unit))))))))) (.pair (.int .i64) (.unit)))) ls) : ∃ x : GR17Table, QGR17Table x ∧ ls = eGR17Table x := by
  obtain ⟨x0, y0, h0, ⟨x1, y1, h1, hu, rfl⟩, rfl⟩ := h
  obtain ⟨a0, q0, rfl⟩ := (ft_sl (Q := fun (x : GR17Conn) => QGR17Conn x) (fun h => ft_GR17Conn h)) h0
  obtain ⟨a1, q1, rfl⟩ := ft_i64 h1
  have hu : y1 = [] := hu
  subst hu
  exact ⟨⟨a0, a1⟩, ⟨q0, q1⟩, rfl⟩
end Go.Proofs.YtlnpkincpgbmcaaDoor.Abs
