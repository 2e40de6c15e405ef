/-
  What the arguments are.
-/
import Derived.Test.YtbjckaahoacbfaaGreatDoorAbsC
import Derived.Test.YtbjckaahoacbfaaGreatDoorT21
set_option linter.unusedVariables false
set_option linter.unusedSimpArgs false
namespace Go.Proofs.YtbjckaahoacbfaaGreatDoor.Abs
open Go.RowKit
def Xx (x : B8) : Prop := (x.Lo.length ≤ maxLen ∧ ∀ xy ∈ x.Lo, True) ∧ (x.Hi.length ≤ maxLen ∧ ∀ xy ∈ x.Hi, True) ∧ True
theorem Y9 {ls : List Lf} (h : Xc (.st (.pair (.sl (.int .u8)) (.pair (.sl (.int .u8)) (.pair (.bool) (.unit))))) ls) : ∃ x : B8, Xx x ∧ ls = Xv x := by
  obtain ⟨x0, y0, h0, ⟨x1, y1, h1, ⟨x2, y2, h2, hu, rfl⟩, rfl⟩, rfl⟩ := h
  obtain ⟨a0, q0, rfl⟩ := (Xj (Q := fun (x : UInt8) => True) (fun h => Acd h)) h0
  obtain ⟨a1, q1, rfl⟩ := (Xj (Q := fun (x : UInt8) => True) (fun h => Acd h)) h1
  obtain ⟨a2, q2, rfl⟩ := Abc h2
  have hu : y2 = [] := hu
  subst hu
  exact ⟨⟨a0, a1, a2⟩, ⟨q0, q1, q2⟩, rfl⟩
def Ab0 (x : W3) : Prop := (-9223372036854775808 ≤ x.What ∧ x.What ≤ 9223372036854775807) ∧ (-9223372036854775808 ≤ x.A ∧ x.A ≤ 9223372036854775807) ∧ (-9223372036854775808 ≤ x.B ∧ x.B ≤ 9223372036854775807) ∧ (-9223372036854775808 ≤ x.N ∧ x.N ≤ 9223372036854775807) ∧ (x.Key.length ≤ maxLen ∧ ∀ xy ∈ x.Key, True) ∧ Xx x.Rng
theorem Ahd {ls : List Lf} (h : Xc (.st (.pair (.int .i64) (.pair (.int .i64) (.pair (.int .i64) (.pair (.int .i64) (.pair (.sl (.int .u8)) (.pair (.st (.pair (.sl (.int .u8)) (.pair (.sl (.int .u8)) (.pair (.bool) (.unit))))) (.unit)))))))) ls) : ∃ x : W3, Ab0 x ∧ ls = O5 x := by
  obtain ⟨x0, y0, h0, ⟨x1, y1, h1, ⟨x2, y2, h2, ⟨x3, y3, h3, ⟨x4, y4, h4, ⟨x5, y5, h5, hu, rfl⟩, rfl⟩, rfl⟩, rfl⟩, rfl⟩, rfl⟩ := h
  obtain ⟨a0, q0, rfl⟩ := Re h0
  obtain ⟨a1, q1, rfl⟩ := Re h1
  obtain ⟨a2, q2, rfl⟩ := Re h2
  obtain ⟨a3, q3, rfl⟩ := Re h3
  obtain ⟨a4, q4, rfl⟩ := (Xj (Q := fun (x : UInt8) => True) (fun h => Acd h)) h4
  obtain ⟨a5, q5, rfl⟩ := Y9 h5
  have hu : y5 = [] := hu
  subst hu
  exact ⟨⟨a0, a1, a2, a3, a4, a5⟩, ⟨q0, q1, q2, q3, q4, q5⟩, rfl⟩
def Z0 (x : Iq) : Prop := True ∧ (x.Ops.length ≤ maxLen ∧ ∀ xy ∈ x.Ops, Ab0 xy)
theorem Abj {ls : List Lf} (h : Xc (.st (.pair (.bool) (.pair (.sl (.st (.pair (.int .i64) (.pair (.int .i64) (.pair (.int .i64) (.pair (.int .i64) (.pair (.sl (.int .u8)) (.pair (.st (.pair (.sl (.int .u8)) (.pair (.sl (.int .u8)) (.pair (.bool) (.unit))))) (.unit))))))))) (.unit)))) ls) : ∃ x : Iq, Z0 x ∧ ls = Aas x := by
  obtain ⟨x0, y0, h0, ⟨x1, y1, h1, hu, rfl⟩, rfl⟩ := h
  obtain ⟨a0, q0, rfl⟩ := Abc h0
  obtain ⟨a1, q1, rfl⟩ := (Xj (Q := fun (x : W3) => Ab0 x) (fun h => Ahd h)) h1
  have hu : y1 = [] := hu
  subst hu
  exact ⟨⟨a0, a1⟩, ⟨q0, q1⟩, rfl⟩
def Ze (x : Rk) : Prop := (-9223372036854775808 ≤ x.Token ∧ x.Token ≤ 9223372036854775807) ∧ Z0 x.Prog
theorem Abo {ls : List Lf} (h : Xc (.st (.pair (.int .i64) (.pair (.st (.pair (.bool) (.pair (.sl (.st (.pair (.int .i64) (.pair (.int .i64) (.pair (.int .i64) (.pair (.int .i64) (.pair (.sl (.int .u8)) (.pair (.st (.pair (.sl (.int .u8)) (.pair (.sl (.int .u8)) (.pair (.bool) (.unit))))) (.unit))))))))) (.unit)))) (.unit)))) ls) : ∃ x : Rk, Ze x ∧ ls = Zv x := by
  obtain ⟨x0, y0, h0, ⟨x1, y1, h1, hu, rfl⟩, rfl⟩ := h
  obtain ⟨a0, q0, rfl⟩ := Re h0
  obtain ⟨a1, q1, rfl⟩ := Abj h1
  have hu : y1 = [] := hu
  subst hu
  exact ⟨⟨a0, a1⟩, ⟨q0, q1⟩, rfl⟩
def Abu (x : Db) : Prop := (x.Key.length ≤ maxLen ∧ ∀ xy ∈ x.Key, True) ∧ (x.Val.length ≤ maxLen ∧ ∀ xy ∈ x.Val, True)
theorem Agc {ls : List Lf} (h : Xc (.st (.pair (.sl (.int .u8)) (.pair (.sl (.int .u8)) (.unit)))) ls) : ∃ x : Db, Abu x ∧ ls = Dw x := by
  obtain ⟨x0, y0, h0, ⟨x1, y1, h1, hu, rfl⟩, rfl⟩ := h
  obtain ⟨a0, q0, rfl⟩ := (Xj (Q := fun (x : UInt8) => True) (fun h => Acd h)) h0
  obtain ⟨a1, q1, rfl⟩ := (Xj (Q := fun (x : UInt8) => True) (fun h => Acd h)) h1
  have hu : y1 = [] := hu
  subst hu
  exact ⟨⟨a0, a1⟩, ⟨q0, q1⟩, rfl⟩
def X1 (x : Hu) : Prop := (-9223372036854775808 ≤ x.Kind ∧ x.Kind ≤ 9223372036854775807) ∧ (-9223372036854775808 ≤ x.Seq ∧ x.Seq ≤ 9223372036854775807) ∧ (-9223372036854775808 ≤ x.Code ∧ x.Code ≤ 9223372036854775807) ∧ (-9223372036854775808 ≤ x.N ∧ x.N ≤ 9223372036854775807) ∧ True ∧ (x.Val.length ≤ maxLen ∧ ∀ xy ∈ x.Val, True) ∧ (x.List.length ≤ maxLen ∧ ∀ xy ∈ x.List, Abu xy)
theorem Z6 {ls : List Lf} (h : Xc (.st (.pair (.int .i64) (.pair (.int .i64) (.pair (.int .i64) (.pair (.int .i64) (.pair (.bool) (.pair (.sl (.int .u8)) (.pair (.sl (.st (.pair (.sl (.int .u8)) (.pair (.sl (.int .u8)) (.unit))))) (.unit))))))))) ls) : ∃ x : Hu, X1 x ∧ ls = Xl x := by
  obtain ⟨x0, y0, h0, ⟨x1, y1, h1, ⟨x2, y2, h2, ⟨x3, y3, h3, ⟨x4, y4, h4, ⟨x5, y5, h5, ⟨x6, y6, h6, hu, rfl⟩, rfl⟩, rfl⟩, rfl⟩, rfl⟩, rfl⟩, rfl⟩ := h
  obtain ⟨a0, q0, rfl⟩ := Re h0
  obtain ⟨a1, q1, rfl⟩ := Re h1
  obtain ⟨a2, q2, rfl⟩ := Re h2
  obtain ⟨a3, q3, rfl⟩ := Re h3
  obtain ⟨a4, q4, rfl⟩ := Abc h4
  obtain ⟨a5, q5, rfl⟩ := (Xj (Q := fun (x : UInt8) => True) (fun h => Acd h)) h5
  obtain ⟨a6, q6, rfl⟩ := (Xj (Q := fun (x : Db) => Abu x) (fun h => Agc h)) h6
  have hu : y6 = [] := hu
  subst hu
  exact ⟨⟨a0, a1, a2, a3, a4, a5, a6⟩, ⟨q0, q1, q2, q3, q4, q5, q6⟩, rfl⟩
def Acn (x : I9) : Prop := (-9223372036854775808 ≤ x.What ∧ x.What ≤ 9223372036854775807) ∧ (-9223372036854775808 ≤ x.N ∧ x.N ≤ 9223372036854775807) ∧ Ze x.Task ∧ X1 x.Reply ∧ (x.Bytes.length ≤ maxLen ∧ ∀ xy ∈ x.Bytes, True)
theorem Aeh {ls : List Lf} (h : Xc (.st (.pair (.int .i64) (.pair (.int .i64) (.pair (.st (.pair (.int .i64) (.pair (.st (.pair (.bool) (.pair (.sl (.st (.pair (.int .i64) (.pair (.int .i64) (.pair (.int .i64) (.pair (.int .i64) (.pair (.sl (.int .u8)) (.pair (.st (.pair (.sl (.int .u8)) (.pair (.sl (.int .u8)) (.pair (.bool) (.unit))))) (.unit))))))))) (.unit)))) (.unit)))) (.pair (.st (.pair (.int .i64) (.pair (.int .i64) (.pair (.int .i64) (.pair (.int .i64) (.pair (.bool) (.pair (.sl (.int .u8)) (.pair (.sl (.st (.pair (.sl (.int .u8)) (.pair (.sl (.int .u8)) (.unit))))) (.unit))))))))) (.pair (.sl (.int .u8)) (.unit))))))) ls) : ∃ x : I9, Acn x ∧ ls = Jg x := by
  obtain ⟨x0, y0, h0, ⟨x1, y1, h1, ⟨x2, y2, h2, ⟨x3, y3, h3, ⟨x4, y4, h4, hu, rfl⟩, rfl⟩, rfl⟩, rfl⟩, rfl⟩ := h
  obtain ⟨a0, q0, rfl⟩ := Re h0
  obtain ⟨a1, q1, rfl⟩ := Re h1
  obtain ⟨a2, q2, rfl⟩ := Abo h2
  obtain ⟨a3, q3, rfl⟩ := Z6 h3
  obtain ⟨a4, q4, rfl⟩ := (Xj (Q := fun (x : UInt8) => True) (fun h => Acd h)) h4
  have hu : y4 = [] := hu
  subst hu
  exact ⟨⟨a0, a1, a2, a3, a4⟩, ⟨q0, q1, q2, q3, q4⟩, rfl⟩
end Go.Proofs.YtbjckaahoacbfaaGreatDoor.Abs
