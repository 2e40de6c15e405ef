/-
  What the arguments are.
-/
import Derived.Test.YtoojcpiigkmhiaaAbsC
import Derived.Test.YtoojcpiigkmhiaaT04
namespace Go.Proofs.Ytoojcpiigkmhiaa.Abs
open Go.RowKit
def QGR04Stream (x : GR04Stream) : Prop := (x.Buf.length ≤ maxLen ∧ ∀ xy ∈ x.Buf, True) ∧ (-9223372036854775808 ≤ x.Dead ∧ x.Dead ≤ 9223372036854775807)
theorem ft_GR04Stream {ls : List Lf} (h : Fits (.st (.pair (.sl (.int .u8)) (.pair (.int .i64) (.unit)))) ls) : ∃ x : GR04Stream, QGR04Stream x ∧ ls = eGR04Stream x := by
  obtain ⟨x0, y0, h0, ⟨x1, y1, h1, hu, rfl⟩, rfl⟩ := h
  obtain ⟨a0, q0, rfl⟩ := (ft_sl (Q := fun (x : UInt8) => True) (fun h => ft_u8 h)) h0
  obtain ⟨a1, q1, rfl⟩ := ft_i64 h1
  have hu : y1 = [] := hu
  subst hu
  exact ⟨⟨a0, a1⟩, ⟨q0, q1⟩, rfl⟩
end Go.Proofs.Ytoojcpiigkmhiaa.Abs
