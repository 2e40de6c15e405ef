/-
  What the arguments are.
-/
import Derived.Test.YtbjckaahoacbfaaGreatDoorEAbsC
import Derived.Test.YtbjckaahoacbfaaGreatDoorET21
set_option linter.unusedVariables false
set_option linter.unusedSimpArgs false
namespace Go.Proofs.YtbjckaahoacbfaaGreatDoor.Abs
open Go.RowKit
def Xv (x : B7) : Prop := (x.Lo.length ≤ maxLen ∧ ∀ xy ∈ x.Lo, True) ∧ (x.Hi.length ≤ maxLen ∧ ∀ xy ∈ x.Hi, True) ∧ True
theorem Zn {ls : List Lf} (h : Xf (.st (.pair (.sl (.int .u8)) (.pair (.sl (.int .u8)) (.pair (.bool) (.unit))))) ls) : ∃ x : B7, Xv x ∧ ls = Xx x := by
  obtain ⟨x0, y0, h0, ⟨x1, y1, h1, ⟨x2, y2, h2, hu, rfl⟩, rfl⟩, rfl⟩ := h
  obtain ⟨a0, q0, rfl⟩ := (W7 (Q := fun (x : UInt8) => True) (fun h => Abr h)) h0
  obtain ⟨a1, q1, rfl⟩ := (W7 (Q := fun (x : UInt8) => True) (fun h => Abr h)) h1
  obtain ⟨a2, q2, rfl⟩ := Yq h2
  have hu : y2 = [] := hu
  subst hu
  exact ⟨⟨a0, a1, a2⟩, ⟨q0, q1, q2⟩, rfl⟩
def Acd (x : Vr) : Prop := (-9223372036854775808 ≤ x.What ∧ x.What ≤ 9223372036854775807) ∧ (-9223372036854775808 ≤ x.A ∧ x.A ≤ 9223372036854775807) ∧ (-9223372036854775808 ≤ x.B ∧ x.B ≤ 9223372036854775807) ∧ (-9223372036854775808 ≤ x.N ∧ x.N ≤ 9223372036854775807) ∧ (x.Key.length ≤ maxLen ∧ ∀ xy ∈ x.Key, True) ∧ Xv x.Rng
theorem Agj {ls : List Lf} (h : Xf (.st (.pair (.int .i64) (.pair (.int .i64) (.pair (.int .i64) (.pair (.int .i64) (.pair (.sl (.int .u8)) (.pair (.st (.pair (.sl (.int .u8)) (.pair (.sl (.int .u8)) (.pair (.bool) (.unit))))) (.unit)))))))) ls) : ∃ x : Vr, Acd x ∧ ls = Ox x := by
  obtain ⟨x0, y0, h0, ⟨x1, y1, h1, ⟨x2, y2, h2, ⟨x3, y3, h3, ⟨x4, y4, h4, ⟨x5, y5, h5, hu, rfl⟩, rfl⟩, rfl⟩, rfl⟩, rfl⟩, rfl⟩ := h
  obtain ⟨a0, q0, rfl⟩ := Qe h0
  obtain ⟨a1, q1, rfl⟩ := Qe h1
  obtain ⟨a2, q2, rfl⟩ := Qe h2
  obtain ⟨a3, q3, rfl⟩ := Qe h3
  obtain ⟨a4, q4, rfl⟩ := (W7 (Q := fun (x : UInt8) => True) (fun h => Abr h)) h4
  obtain ⟨a5, q5, rfl⟩ := Zn h5
  have hu : y5 = [] := hu
  subst hu
  exact ⟨⟨a0, a1, a2, a3, a4, a5⟩, ⟨q0, q1, q2, q3, q4, q5⟩, rfl⟩
def Y9 (x : Iz) : Prop := True ∧ (x.Ops.length ≤ maxLen ∧ ∀ xy ∈ x.Ops, Acd xy)
theorem Aa6 {ls : List Lf} (h : Xf (.st (.pair (.bool) (.pair (.sl (.st (.pair (.int .i64) (.pair (.int .i64) (.pair (.int .i64) (.pair (.int .i64) (.pair (.sl (.int .u8)) (.pair (.st (.pair (.sl (.int .u8)) (.pair (.sl (.int .u8)) (.pair (.bool) (.unit))))) (.unit))))))))) (.unit)))) ls) : ∃ x : Iz, Y9 x ∧ ls = Aae x := by
  obtain ⟨x0, y0, h0, ⟨x1, y1, h1, hu, rfl⟩, rfl⟩ := h
  obtain ⟨a0, q0, rfl⟩ := Yq h0
  obtain ⟨a1, q1, rfl⟩ := (W7 (Q := fun (x : Vr) => Acd x) (fun h => Agj h)) h1
  have hu : y1 = [] := hu
  subst hu
  exact ⟨⟨a0, a1⟩, ⟨q0, q1⟩, rfl⟩
def Zv (x : Tl) : Prop := (-9223372036854775808 ≤ x.Token ∧ x.Token ≤ 9223372036854775807) ∧ Y9 x.Prog
theorem Abl {ls : List Lf} (h : Xf (.st (.pair (.int .i64) (.pair (.st (.pair (.bool) (.pair (.sl (.st (.pair (.int .i64) (.pair (.int .i64) (.pair (.int .i64) (.pair (.int .i64) (.pair (.sl (.int .u8)) (.pair (.st (.pair (.sl (.int .u8)) (.pair (.sl (.int .u8)) (.pair (.bool) (.unit))))) (.unit))))))))) (.unit)))) (.unit)))) ls) : ∃ x : Tl, Zv x ∧ ls = Z4 x := by
  obtain ⟨x0, y0, h0, ⟨x1, y1, h1, hu, rfl⟩, rfl⟩ := h
  obtain ⟨a0, q0, rfl⟩ := Qe h0
  obtain ⟨a1, q1, rfl⟩ := Aa6 h1
  have hu : y1 = [] := hu
  subst hu
  exact ⟨⟨a0, a1⟩, ⟨q0, q1⟩, rfl⟩
def Aa7 (x : C9) : Prop := (x.Key.length ≤ maxLen ∧ ∀ xy ∈ x.Key, True) ∧ (x.Val.length ≤ maxLen ∧ ∀ xy ∈ x.Val, True)
theorem Ago {ls : List Lf} (h : Xf (.st (.pair (.sl (.int .u8)) (.pair (.sl (.int .u8)) (.unit)))) ls) : ∃ x : C9, Aa7 x ∧ ls = Dr x := by
  obtain ⟨x0, y0, h0, ⟨x1, y1, h1, hu, rfl⟩, rfl⟩ := h
  obtain ⟨a0, q0, rfl⟩ := (W7 (Q := fun (x : UInt8) => True) (fun h => Abr h)) h0
  obtain ⟨a1, q1, rfl⟩ := (W7 (Q := fun (x : UInt8) => True) (fun h => Abr h)) h1
  have hu : y1 = [] := hu
  subst hu
  exact ⟨⟨a0, a1⟩, ⟨q0, q1⟩, rfl⟩
def Xu (x : Hx) : Prop := (-9223372036854775808 ≤ x.Kind ∧ x.Kind ≤ 9223372036854775807) ∧ (-9223372036854775808 ≤ x.Seq ∧ x.Seq ≤ 9223372036854775807) ∧ (-9223372036854775808 ≤ x.Code ∧ x.Code ≤ 9223372036854775807) ∧ (-9223372036854775808 ≤ x.N ∧ x.N ≤ 9223372036854775807) ∧ True ∧ (x.Val.length ≤ maxLen ∧ ∀ xy ∈ x.Val, True) ∧ (x.List.length ≤ maxLen ∧ ∀ xy ∈ x.List, Aa7 xy)
theorem Y4 {ls : List Lf} (h : Xf (.st (.pair (.int .i64) (.pair (.int .i64) (.pair (.int .i64) (.pair (.int .i64) (.pair (.bool) (.pair (.sl (.int .u8)) (.pair (.sl (.st (.pair (.sl (.int .u8)) (.pair (.sl (.int .u8)) (.unit))))) (.unit))))))))) ls) : ∃ x : Hx, Xu x ∧ ls = Xy x := by
  obtain ⟨x0, y0, h0, ⟨x1, y1, h1, ⟨x2, y2, h2, ⟨x3, y3, h3, ⟨x4, y4, h4, ⟨x5, y5, h5, ⟨x6, y6, h6, hu, rfl⟩, rfl⟩, rfl⟩, rfl⟩, rfl⟩, rfl⟩, rfl⟩ := h
  obtain ⟨a0, q0, rfl⟩ := Qe h0
  obtain ⟨a1, q1, rfl⟩ := Qe h1
  obtain ⟨a2, q2, rfl⟩ := Qe h2
  obtain ⟨a3, q3, rfl⟩ := Qe h3
  obtain ⟨a4, q4, rfl⟩ := Yq h4
  obtain ⟨a5, q5, rfl⟩ := (W7 (Q := fun (x : UInt8) => True) (fun h => Abr h)) h5
  obtain ⟨a6, q6, rfl⟩ := (W7 (Q := fun (x : C9) => Aa7 x) (fun h => Ago h)) h6
  have hu : y6 = [] := hu
  subst hu
  exact ⟨⟨a0, a1, a2, a3, a4, a5, a6⟩, ⟨q0, q1, q2, q3, q4, q5, q6⟩, rfl⟩
def Ac3 (x : Ka) : Prop := (-9223372036854775808 ≤ x.What ∧ x.What ≤ 9223372036854775807) ∧ (-9223372036854775808 ≤ x.N ∧ x.N ≤ 9223372036854775807) ∧ Zv x.Task ∧ Xu x.Reply ∧ (x.Bytes.length ≤ maxLen ∧ ∀ xy ∈ x.Bytes, True)
theorem Aee {ls : List Lf} (h : Xf (.st (.pair (.int .i64) (.pair (.int .i64) (.pair (.st (.pair (.int .i64) (.pair (.st (.pair (.bool) (.pair (.sl (.st (.pair (.int .i64) (.pair (.int .i64) (.pair (.int .i64) (.pair (.int .i64) (.pair (.sl (.int .u8)) (.pair (.st (.pair (.sl (.int .u8)) (.pair (.sl (.int .u8)) (.pair (.bool) (.unit))))) (.unit))))))))) (.unit)))) (.unit)))) (.pair (.st (.pair (.int .i64) (.pair (.int .i64) (.pair (.int .i64) (.pair (.int .i64) (.pair (.bool) (.pair (.sl (.int .u8)) (.pair (.sl (.st (.pair (.sl (.int .u8)) (.pair (.sl (.int .u8)) (.unit))))) (.unit))))))))) (.pair (.sl (.int .u8)) (.unit))))))) ls) : ∃ x : Ka, Ac3 x ∧ ls = M6 x := by
  obtain ⟨x0, y0, h0, ⟨x1, y1, h1, ⟨x2, y2, h2, ⟨x3, y3, h3, ⟨x4, y4, h4, hu, rfl⟩, rfl⟩, rfl⟩, rfl⟩, rfl⟩ := h
  obtain ⟨a0, q0, rfl⟩ := Qe h0
  obtain ⟨a1, q1, rfl⟩ := Qe h1
  obtain ⟨a2, q2, rfl⟩ := Abl h2
  obtain ⟨a3, q3, rfl⟩ := Y4 h3
  obtain ⟨a4, q4, rfl⟩ := (W7 (Q := fun (x : UInt8) => True) (fun h => Abr h)) h4
  have hu : y4 = [] := hu
  subst hu
  exact ⟨⟨a0, a1, a2, a3, a4⟩, ⟨q0, q1, q2, q3, q4⟩, rfl⟩
end Go.Proofs.YtbjckaahoacbfaaGreatDoor.Abs
