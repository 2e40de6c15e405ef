/-
  What the arguments are.
-/
import Derived.Test.YtbjckaahoacbfaaGreatDoorTAbsC
import Derived.Test.YtbjckaahoacbfaaGreatDoorTT21
set_option linter.unusedVariables false
set_option linter.unusedSimpArgs false
namespace Go.Proofs.YtbjckaahoacbfaaGreatDoor.Abs
open Go.RowKit
def Xq (x : B9) : Prop := (x.Lo.length ≤ maxLen ∧ ∀ xy ∈ x.Lo, True) ∧ (x.Hi.length ≤ maxLen ∧ ∀ xy ∈ x.Hi, True) ∧ True
theorem Aac {ls : List Lf} (h : Xc (.st (.pair (.sl (.int .u8)) (.pair (.sl (.int .u8)) (.pair (.bool) (.unit))))) ls) : ∃ x : B9, Xq x ∧ ls = X4 x := by
  obtain ⟨x0, y0, h0, ⟨x1, y1, h1, ⟨x2, y2, h2, hu, rfl⟩, rfl⟩, rfl⟩ := h
  obtain ⟨a0, q0, rfl⟩ := (Xn (Q := fun (x : UInt8) => True) (fun h => Acv h)) h0
  obtain ⟨a1, q1, rfl⟩ := (Xn (Q := fun (x : UInt8) => True) (fun h => Acv h)) h1
  obtain ⟨a2, q2, rfl⟩ := Ab2 h2
  have hu : y2 = [] := hu
  subst hu
  exact ⟨⟨a0, a1, a2⟩, ⟨q0, q1, q2⟩, rfl⟩
def Abj (x : Wl) : Prop := (-9223372036854775808 ≤ x.What ∧ x.What ≤ 9223372036854775807) ∧ (-9223372036854775808 ≤ x.A ∧ x.A ≤ 9223372036854775807) ∧ (-9223372036854775808 ≤ x.B ∧ x.B ≤ 9223372036854775807) ∧ (-9223372036854775808 ≤ x.N ∧ x.N ≤ 9223372036854775807) ∧ (x.Key.length ≤ maxLen ∧ ∀ xy ∈ x.Key, True) ∧ Xq x.Rng
theorem Ag9 {ls : List Lf} (h : Xc (.st (.pair (.int .i64) (.pair (.int .i64) (.pair (.int .i64) (.pair (.int .i64) (.pair (.sl (.int .u8)) (.pair (.st (.pair (.sl (.int .u8)) (.pair (.sl (.int .u8)) (.pair (.bool) (.unit))))) (.unit)))))))) ls) : ∃ x : Wl, Abj x ∧ ls = O6 x := by
  obtain ⟨x0, y0, h0, ⟨x1, y1, h1, ⟨x2, y2, h2, ⟨x3, y3, h3, ⟨x4, y4, h4, ⟨x5, y5, h5, hu, rfl⟩, rfl⟩, rfl⟩, rfl⟩, rfl⟩, rfl⟩ := h
  obtain ⟨a0, q0, rfl⟩ := Re h0
  obtain ⟨a1, q1, rfl⟩ := Re h1
  obtain ⟨a2, q2, rfl⟩ := Re h2
  obtain ⟨a3, q3, rfl⟩ := Re h3
  obtain ⟨a4, q4, rfl⟩ := (Xn (Q := fun (x : UInt8) => True) (fun h => Acv h)) h4
  obtain ⟨a5, q5, rfl⟩ := Aac h5
  have hu : y5 = [] := hu
  subst hu
  exact ⟨⟨a0, a1, a2, a3, a4, a5⟩, ⟨q0, q1, q2, q3, q4, q5⟩, rfl⟩
def Aaj (x : Iy) : Prop := True ∧ (x.Ops.length ≤ maxLen ∧ ∀ xy ∈ x.Ops, Abj xy)
theorem Abx {ls : List Lf} (h : Xc (.st (.pair (.bool) (.pair (.sl (.st (.pair (.int .i64) (.pair (.int .i64) (.pair (.int .i64) (.pair (.int .i64) (.pair (.sl (.int .u8)) (.pair (.st (.pair (.sl (.int .u8)) (.pair (.sl (.int .u8)) (.pair (.bool) (.unit))))) (.unit))))))))) (.unit)))) ls) : ∃ x : Iy, Aaj x ∧ ls = Zv x := by
  obtain ⟨x0, y0, h0, ⟨x1, y1, h1, hu, rfl⟩, rfl⟩ := h
  obtain ⟨a0, q0, rfl⟩ := Ab2 h0
  obtain ⟨a1, q1, rfl⟩ := (Xn (Q := fun (x : Wl) => Abj x) (fun h => Ag9 h)) h1
  have hu : y1 = [] := hu
  subst hu
  exact ⟨⟨a0, a1⟩, ⟨q0, q1⟩, rfl⟩
def Aa3 (x : Rt) : Prop := (-9223372036854775808 ≤ x.Token ∧ x.Token ≤ 9223372036854775807) ∧ Aaj x.Prog
theorem Abk {ls : List Lf} (h : Xc (.st (.pair (.int .i64) (.pair (.st (.pair (.bool) (.pair (.sl (.st (.pair (.int .i64) (.pair (.int .i64) (.pair (.int .i64) (.pair (.int .i64) (.pair (.sl (.int .u8)) (.pair (.st (.pair (.sl (.int .u8)) (.pair (.sl (.int .u8)) (.pair (.bool) (.unit))))) (.unit))))))))) (.unit)))) (.unit)))) ls) : ∃ x : Rt, Aa3 x ∧ ls = Aas x := by
  obtain ⟨x0, y0, h0, ⟨x1, y1, h1, hu, rfl⟩, rfl⟩ := h
  obtain ⟨a0, q0, rfl⟩ := Re h0
  obtain ⟨a1, q1, rfl⟩ := Abx h1
  have hu : y1 = [] := hu
  subst hu
  exact ⟨⟨a0, a1⟩, ⟨q0, q1⟩, rfl⟩
def Abo (x : Db) : Prop := (x.Key.length ≤ maxLen ∧ ∀ xy ∈ x.Key, True) ∧ (x.Val.length ≤ maxLen ∧ ∀ xy ∈ x.Val, True)
theorem Ah2 {ls : List Lf} (h : Xc (.st (.pair (.sl (.int .u8)) (.pair (.sl (.int .u8)) (.unit)))) ls) : ∃ x : Db, Abo x ∧ ls = Dx x := by
  obtain ⟨x0, y0, h0, ⟨x1, y1, h1, hu, rfl⟩, rfl⟩ := h
  obtain ⟨a0, q0, rfl⟩ := (Xn (Q := fun (x : UInt8) => True) (fun h => Acv h)) h0
  obtain ⟨a1, q1, rfl⟩ := (Xn (Q := fun (x : UInt8) => True) (fun h => Acv h)) h1
  have hu : y1 = [] := hu
  subst hu
  exact ⟨⟨a0, a1⟩, ⟨q0, q1⟩, rfl⟩
def Xx (x : Hx) : Prop := (-9223372036854775808 ≤ x.Kind ∧ x.Kind ≤ 9223372036854775807) ∧ (-9223372036854775808 ≤ x.Seq ∧ x.Seq ≤ 9223372036854775807) ∧ (-9223372036854775808 ≤ x.Code ∧ x.Code ≤ 9223372036854775807) ∧ (-9223372036854775808 ≤ x.N ∧ x.N ≤ 9223372036854775807) ∧ True ∧ (x.Val.length ≤ maxLen ∧ ∀ xy ∈ x.Val, True) ∧ (x.List.length ≤ maxLen ∧ ∀ xy ∈ x.List, Abo xy)
theorem Z6 {ls : List Lf} (h : Xc (.st (.pair (.int .i64) (.pair (.int .i64) (.pair (.int .i64) (.pair (.int .i64) (.pair (.bool) (.pair (.sl (.int .u8)) (.pair (.sl (.st (.pair (.sl (.int .u8)) (.pair (.sl (.int .u8)) (.unit))))) (.unit))))))))) ls) : ∃ x : Hx, Xx x ∧ ls = Yd x := by
  obtain ⟨x0, y0, h0, ⟨x1, y1, h1, ⟨x2, y2, h2, ⟨x3, y3, h3, ⟨x4, y4, h4, ⟨x5, y5, h5, ⟨x6, y6, h6, hu, rfl⟩, rfl⟩, rfl⟩, rfl⟩, rfl⟩, rfl⟩, rfl⟩ := h
  obtain ⟨a0, q0, rfl⟩ := Re h0
  obtain ⟨a1, q1, rfl⟩ := Re h1
  obtain ⟨a2, q2, rfl⟩ := Re h2
  obtain ⟨a3, q3, rfl⟩ := Re h3
  obtain ⟨a4, q4, rfl⟩ := Ab2 h4
  obtain ⟨a5, q5, rfl⟩ := (Xn (Q := fun (x : UInt8) => True) (fun h => Acv h)) h5
  obtain ⟨a6, q6, rfl⟩ := (Xn (Q := fun (x : Db) => Abo x) (fun h => Ah2 h)) h6
  have hu : y6 = [] := hu
  subst hu
  exact ⟨⟨a0, a1, a2, a3, a4, a5, a6⟩, ⟨q0, q1, q2, q3, q4, q5, q6⟩, rfl⟩
def Adf (x : Ja) : Prop := (-9223372036854775808 ≤ x.What ∧ x.What ≤ 9223372036854775807) ∧ (-9223372036854775808 ≤ x.N ∧ x.N ≤ 9223372036854775807) ∧ Aa3 x.Task ∧ Xx x.Reply ∧ (x.Bytes.length ≤ maxLen ∧ ∀ xy ∈ x.Bytes, True)
theorem Aef {ls : List Lf} (h : Xc (.st (.pair (.int .i64) (.pair (.int .i64) (.pair (.st (.pair (.int .i64) (.pair (.st (.pair (.bool) (.pair (.sl (.st (.pair (.int .i64) (.pair (.int .i64) (.pair (.int .i64) (.pair (.int .i64) (.pair (.sl (.int .u8)) (.pair (.st (.pair (.sl (.int .u8)) (.pair (.sl (.int .u8)) (.pair (.bool) (.unit))))) (.unit))))))))) (.unit)))) (.unit)))) (.pair (.st (.pair (.int .i64) (.pair (.int .i64) (.pair (.int .i64) (.pair (.int .i64) (.pair (.bool) (.pair (.sl (.int .u8)) (.pair (.sl (.st (.pair (.sl (.int .u8)) (.pair (.sl (.int .u8)) (.unit))))) (.unit))))))))) (.pair (.sl (.int .u8)) (.unit))))))) ls) : ∃ x : Ja, Adf x ∧ ls = Nf x := by
  obtain ⟨x0, y0, h0, ⟨x1, y1, h1, ⟨x2, y2, h2, ⟨x3, y3, h3, ⟨x4, y4, h4, hu, rfl⟩, rfl⟩, rfl⟩, rfl⟩, rfl⟩ := h
  obtain ⟨a0, q0, rfl⟩ := Re h0
  obtain ⟨a1, q1, rfl⟩ := Re h1
  obtain ⟨a2, q2, rfl⟩ := Abk h2
  obtain ⟨a3, q3, rfl⟩ := Z6 h3
  obtain ⟨a4, q4, rfl⟩ := (Xn (Q := fun (x : UInt8) => True) (fun h => Acv h)) h4
  have hu : y4 = [] := hu
  subst hu
  exact ⟨⟨a0, a1, a2, a3, a4⟩, ⟨q0, q1, q2, q3, q4⟩, rfl⟩
end Go.Proofs.YtbjckaahoacbfaaGreatDoor.Abs
