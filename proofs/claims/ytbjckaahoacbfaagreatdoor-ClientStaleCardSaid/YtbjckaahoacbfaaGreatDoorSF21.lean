/- . -/
import Derived.Test.YtbjckaahoacbfaaGreatDoorSAbsC
import Derived.Test.YtbjckaahoacbfaaGreatDoorST21
set_option linter.unusedVariables false
set_option linter.unusedSimpArgs false
namespace Go.Proofs.YtbjckaahoacbfaaGreatDoor.Abs
open Go.RowKit
def Aap (x : B2) : Prop := (x.Lo.length ≤ maxLen ∧ ∀ xy ∈ x.Lo, True) ∧ (x.Hi.length ≤ maxLen ∧ ∀ xy ∈ x.Hi, True) ∧ True
theorem Acz {ls : List Lf} (h : Z3 (.st (.pair (.sl (.int .u8)) (.pair (.sl (.int .u8)) (.pair (.bool) (.unit))))) ls) : ∃ x : B2, Aap x ∧ ls = Aaz x := by
  obtain ⟨x0, y0, h0, ⟨x1, y1, h1, ⟨x2, y2, h2, hu, rfl⟩, rfl⟩, rfl⟩ := h
  obtain ⟨a0, q0, rfl⟩ := (Z5 (Q := fun (x : UInt8) => True) (fun h => Aeb h)) h0
  obtain ⟨a1, q1, rfl⟩ := (Z5 (Q := fun (x : UInt8) => True) (fun h => Aeb h)) h1
  obtain ⟨a2, q2, rfl⟩ := Aes h2
  have hu : y2 = [] := hu
  subst hu
  exact ⟨⟨a0, a1, a2⟩, ⟨q0, q1, q2⟩, rfl⟩
def Ad7 (x : Kh) : Prop := (-9223372036854775808 ≤ x.What ∧ x.What ≤ 9223372036854775807) ∧ (-9223372036854775808 ≤ x.A ∧ x.A ≤ 9223372036854775807) ∧ (-9223372036854775808 ≤ x.B ∧ x.B ≤ 9223372036854775807) ∧ (-9223372036854775808 ≤ x.N ∧ x.N ≤ 9223372036854775807) ∧ (x.Key.length ≤ maxLen ∧ ∀ xy ∈ x.Key, True) ∧ Aap x.Rng
theorem Aj8 {ls : List Lf} (h : Z3 (.st (.pair (.int .i64) (.pair (.int .i64) (.pair (.int .i64) (.pair (.int .i64) (.pair (.sl (.int .u8)) (.pair (.st (.pair (.sl (.int .u8)) (.pair (.sl (.int .u8)) (.pair (.bool) (.unit))))) (.unit)))))))) ls) : ∃ x : Kh, Ad7 x ∧ ls = Ep x := by
  obtain ⟨x0, y0, h0, ⟨x1, y1, h1, ⟨x2, y2, h2, ⟨x3, y3, h3, ⟨x4, y4, h4, ⟨x5, y5, h5, hu, rfl⟩, rfl⟩, rfl⟩, rfl⟩, rfl⟩, rfl⟩ := h
  obtain ⟨a0, q0, rfl⟩ := Qy h0
  obtain ⟨a1, q1, rfl⟩ := Qy h1
  obtain ⟨a2, q2, rfl⟩ := Qy h2
  obtain ⟨a3, q3, rfl⟩ := Qy h3
  obtain ⟨a4, q4, rfl⟩ := (Z5 (Q := fun (x : UInt8) => True) (fun h => Aeb h)) h4
  obtain ⟨a5, q5, rfl⟩ := Acz h5
  have hu : y5 = [] := hu
  subst hu
  exact ⟨⟨a0, a1, a2, a3, a4, a5⟩, ⟨q0, q1, q2, q3, q4, q5⟩, rfl⟩
def Ac5 (x : Cp) : Prop := True ∧ (x.Ops.length ≤ maxLen ∧ ∀ xy ∈ x.Ops, Ad7 xy)
theorem Aet {ls : List Lf} (h : Z3 (.st (.pair (.bool) (.pair (.sl (.st (.pair (.int .i64) (.pair (.int .i64) (.pair (.int .i64) (.pair (.int .i64) (.pair (.sl (.int .u8)) (.pair (.st (.pair (.sl (.int .u8)) (.pair (.sl (.int .u8)) (.pair (.bool) (.unit))))) (.unit))))))))) (.unit)))) ls) : ∃ x : Cp, Ac5 x ∧ ls = Ack x := by
  obtain ⟨x0, y0, h0, ⟨x1, y1, h1, hu, rfl⟩, rfl⟩ := h
  obtain ⟨a0, q0, rfl⟩ := Aes h0
  obtain ⟨a1, q1, rfl⟩ := (Z5 (Q := fun (x : Kh) => Ad7 x) (fun h => Aj8 h)) h1
  have hu : y1 = [] := hu
  subst hu
  exact ⟨⟨a0, a1⟩, ⟨q0, q1⟩, rfl⟩
def Acp (x : Cf) : Prop := (-9223372036854775808 ≤ x.Token ∧ x.Token ≤ 9223372036854775807) ∧ Ac5 x.Prog
theorem Afb {ls : List Lf} (h : Z3 (.st (.pair (.int .i64) (.pair (.st (.pair (.bool) (.pair (.sl (.st (.pair (.int .i64) (.pair (.int .i64) (.pair (.int .i64) (.pair (.int .i64) (.pair (.sl (.int .u8)) (.pair (.st (.pair (.sl (.int .u8)) (.pair (.sl (.int .u8)) (.pair (.bool) (.unit))))) (.unit))))))))) (.unit)))) (.unit)))) ls) : ∃ x : Cf, Acp x ∧ ls = Ck x := by
  obtain ⟨x0, y0, h0, ⟨x1, y1, h1, hu, rfl⟩, rfl⟩ := h
  obtain ⟨a0, q0, rfl⟩ := Qy h0
  obtain ⟨a1, q1, rfl⟩ := Aet h1
  have hu : y1 = [] := hu
  subst hu
  exact ⟨⟨a0, a1⟩, ⟨q0, q1⟩, rfl⟩
def Ae1 (x : Dk) : Prop := (x.Key.length ≤ maxLen ∧ ∀ xy ∈ x.Key, True) ∧ (x.Val.length ≤ maxLen ∧ ∀ xy ∈ x.Val, True)
theorem Aib {ls : List Lf} (h : Z3 (.st (.pair (.sl (.int .u8)) (.pair (.sl (.int .u8)) (.unit)))) ls) : ∃ x : Dk, Ae1 x ∧ ls = Dw x := by
  obtain ⟨x0, y0, h0, ⟨x1, y1, h1, hu, rfl⟩, rfl⟩ := h
  obtain ⟨a0, q0, rfl⟩ := (Z5 (Q := fun (x : UInt8) => True) (fun h => Aeb h)) h0
  obtain ⟨a1, q1, rfl⟩ := (Z5 (Q := fun (x : UInt8) => True) (fun h => Aeb h)) h1
  have hu : y1 = [] := hu
  subst hu
  exact ⟨⟨a0, a1⟩, ⟨q0, q1⟩, rfl⟩
def Aas (x : Ij) : Prop := (-9223372036854775808 ≤ x.Kind ∧ x.Kind ≤ 9223372036854775807) ∧ (-9223372036854775808 ≤ x.Seq ∧ x.Seq ≤ 9223372036854775807) ∧ (-9223372036854775808 ≤ x.Code ∧ x.Code ≤ 9223372036854775807) ∧ (-9223372036854775808 ≤ x.N ∧ x.N ≤ 9223372036854775807) ∧ True ∧ (x.Val.length ≤ maxLen ∧ ∀ xy ∈ x.Val, True) ∧ (x.List.length ≤ maxLen ∧ ∀ xy ∈ x.List, Ae1 xy)
theorem Aco {ls : List Lf} (h : Z3 (.st (.pair (.int .i64) (.pair (.int .i64) (.pair (.int .i64) (.pair (.int .i64) (.pair (.bool) (.pair (.sl (.int .u8)) (.pair (.sl (.st (.pair (.sl (.int .u8)) (.pair (.sl (.int .u8)) (.unit))))) (.unit))))))))) ls) : ∃ x : Ij, Aas x ∧ ls = Aat x := by
  obtain ⟨x0, y0, h0, ⟨x1, y1, h1, ⟨x2, y2, h2, ⟨x3, y3, h3, ⟨x4, y4, h4, ⟨x5, y5, h5, ⟨x6, y6, h6, hu, rfl⟩, rfl⟩, rfl⟩, rfl⟩, rfl⟩, rfl⟩, rfl⟩ := h
  obtain ⟨a0, q0, rfl⟩ := Qy h0
  obtain ⟨a1, q1, rfl⟩ := Qy h1
  obtain ⟨a2, q2, rfl⟩ := Qy h2
  obtain ⟨a3, q3, rfl⟩ := Qy h3
  obtain ⟨a4, q4, rfl⟩ := Aes h4
  obtain ⟨a5, q5, rfl⟩ := (Z5 (Q := fun (x : UInt8) => True) (fun h => Aeb h)) h5
  obtain ⟨a6, q6, rfl⟩ := (Z5 (Q := fun (x : Dk) => Ae1 x) (fun h => Aib h)) h6
  have hu : y6 = [] := hu
  subst hu
  exact ⟨⟨a0, a1, a2, a3, a4, a5, a6⟩, ⟨q0, q1, q2, q3, q4, q5, q6⟩, rfl⟩
def Agw (x : G3) : Prop := (-9223372036854775808 ≤ x.What ∧ x.What ≤ 9223372036854775807) ∧ (-9223372036854775808 ≤ x.N ∧ x.N ≤ 9223372036854775807) ∧ Acp x.Task ∧ Aas x.Reply ∧ (x.Bytes.length ≤ maxLen ∧ ∀ xy ∈ x.Bytes, True)
theorem Aaj {ls : List Lf} (h : Z3 (.st (.pair (.int .i64) (.pair (.int .i64) (.pair (.st (.pair (.int .i64) (.pair (.st (.pair (.bool) (.pair (.sl (.st (.pair (.int .i64) (.pair (.int .i64) (.pair (.int .i64) (.pair (.int .i64) (.pair (.sl (.int .u8)) (.pair (.st (.pair (.sl (.int .u8)) (.pair (.sl (.int .u8)) (.pair (.bool) (.unit))))) (.unit))))))))) (.unit)))) (.unit)))) (.pair (.st (.pair (.int .i64) (.pair (.int .i64) (.pair (.int .i64) (.pair (.int .i64) (.pair (.bool) (.pair (.sl (.int .u8)) (.pair (.sl (.st (.pair (.sl (.int .u8)) (.pair (.sl (.int .u8)) (.unit))))) (.unit))))))))) (.pair (.sl (.int .u8)) (.unit))))))) ls) : ∃ x : G3, Agw x ∧ ls = Lj x := by
  obtain ⟨x0, y0, h0, ⟨x1, y1, h1, ⟨x2, y2, h2, ⟨x3, y3, h3, ⟨x4, y4, h4, hu, rfl⟩, rfl⟩, rfl⟩, rfl⟩, rfl⟩ := h
  obtain ⟨a0, q0, rfl⟩ := Qy h0
  obtain ⟨a1, q1, rfl⟩ := Qy h1
  obtain ⟨a2, q2, rfl⟩ := Afb h2
  obtain ⟨a3, q3, rfl⟩ := Aco h3
  obtain ⟨a4, q4, rfl⟩ := (Z5 (Q := fun (x : UInt8) => True) (fun h => Aeb h)) h4
  have hu : y4 = [] := hu
  subst hu
  exact ⟨⟨a0, a1, a2, a3, a4⟩, ⟨q0, q1, q2, q3, q4⟩, rfl⟩
end Go.Proofs.YtbjckaahoacbfaaGreatDoor.Abs
