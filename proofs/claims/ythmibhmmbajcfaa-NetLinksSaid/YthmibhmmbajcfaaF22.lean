/-
  What the arguments are.
-/
import Derived.Test.YthmibhmmbajcfaaAbsB
import Derived.Test.YthmibhmmbajcfaaT22
namespace Go.Proofs.Ythmibhmmbajcfaa.Abs
open Go.RowKit
def QGR22Link (x : GR22Link) : Prop := (-9223372036854775808 ≤ x.ID ∧ x.ID ≤ 9223372036854775807) ∧ (-9223372036854775808 ≤ x.Client ∧ x.Client ≤ 9223372036854775807) ∧ (-9223372036854775808 ≤ x.Conn ∧ x.Conn ≤ 9223372036854775807)
theorem ft_GR22Link {ls : List Lf} (h : Fits (.st (.pair (.int .i64) (.pair (.int .i64) (.pair (.int .i64) (.unit))))) ls) : ∃ x : GR22Link, QGR22Link x ∧ ls = eGR22Link x := by
  obtain ⟨x0, y0, h0, ⟨x1, y1, h1, ⟨x2, y2, h2, hu, rfl⟩, rfl⟩, rfl⟩ := h
  obtain ⟨a0, q0, rfl⟩ := ft_i64 h0
  obtain ⟨a1, q1, rfl⟩ := ft_i64 h1
  obtain ⟨a2, q2, rfl⟩ := ft_i64 h2
  have hu : y2 = [] := hu
  subst hu
  exact ⟨⟨a0, a1, a2⟩, ⟨q0, q1, q2⟩, rfl⟩

def QGR22Packet (x : GR22Packet) : Prop := (-9223372036854775808 ≤ x.Link ∧ x.Link ≤ 9223372036854775807) ∧ True ∧ (x.Bytes.length ≤ maxLen ∧ ∀ xy ∈ x.Bytes, True)
theorem ft_GR22Packet {ls : List Lf} (h : Fits (.st (.pair (.int .i64) (.pair (.bool) (.pair (.sl (.int .u8)) (.unit))))) ls) : ∃ x : GR22Packet, QGR22Packet x ∧ ls = eGR22Packet x := by
  obtain ⟨x0, y0, h0, ⟨x1, y1, h1, ⟨x2, y2, h2, hu, rfl⟩, rfl⟩, rfl⟩ := h
  obtain ⟨a0, q0, rfl⟩ := ft_i64 h0
  obtain ⟨a1, q1, rfl⟩ := ft_bool h1
  obtain ⟨a2, q2, rfl⟩ := (ft_sl (Q := fun (x : UInt8) => True) (fun h => ft_u8 h)) h2
  have hu : y2 = [] := hu
  subst hu
  exact ⟨⟨a0, a1, a2⟩, ⟨q0, q1, q2⟩, rfl⟩

def QGR22Net (x : GR22Net) : Prop := (x.Links.length ≤ maxLen ∧ ∀ xy ∈ x.Links, QGR22Link xy) ∧ (x.Packets.length ≤ maxLen ∧ ∀ xy ∈ x.Packets, QGR22Packet xy) ∧ (-9223372036854775808 ≤ x.Next ∧ x.Next ≤ 9223372036854775807)
theorem ft_GR22Net {ls : List Lf} (h : Fits (.st (.pair (.sl (.st (.pair (.int .i64) (.pair (.int .i64) (.pair (.int .i64) (.unit)))))) (.pair (.sl (.st (.pair (.int .i64) (.pair (.bool) (.pair (.sl (.int .u8)) (.unit)))))) (.pair (.int .i64) (.unit))))) ls) : ∃ x : GR22Net, QGR22Net x ∧ ls = eGR22Net x := by
  obtain ⟨x0, y0, h0, ⟨x1, y1, h1, ⟨x2, y2, h2, hu, rfl⟩, rfl⟩, rfl⟩ := h
  obtain ⟨a0, q0, rfl⟩ := (ft_sl (Q := fun (x : GR22Link) => QGR22Link x) (fun h => ft_GR22Link h)) h0
  obtain ⟨a1, q1, rfl⟩ := (ft_sl (Q := fun (x : GR22Packet) => QGR22Packet x) (fun h => ft_GR22Packet h)) h1
  obtain ⟨a2, q2, rfl⟩ := ft_i64 h2
  have hu : y2 = [] := hu
  subst hu
  exact ⟨⟨a0, a1, a2⟩, ⟨q0, q1, q2⟩, rfl⟩

def QGAnon72 (x : GAnon72) : Prop := (-9223372036854775808 ≤ x.R0 ∧ x.R0 ≤ 9223372036854775807) ∧ (-9223372036854775808 ≤ x.R1 ∧ x.R1 ≤ 9223372036854775807)
theorem ft_GAnon72 {ls : List Lf} (h : Fits (.st (.pair (.int .i64) (.pair (.int .i64) (.unit)))) ls) : ∃ x : GAnon72, QGAnon72 x ∧ ls = eGAnon72 x := by
  obtain ⟨x0, y0, h0, ⟨x1, y1, h1, hu, rfl⟩, rfl⟩ := h
  obtain ⟨a0, q0, rfl⟩ := ft_i64 h0
  obtain ⟨a1, q1, rfl⟩ := ft_i64 h1
  have hu : y1 = [] := hu
  subst hu
  exact ⟨⟨a0, a1⟩, ⟨q0, q1⟩, rfl⟩
end Go.Proofs.Ythmibhmmbajcfaa.Abs
