/-
 What the arguments are.
-/
import Derived.Test.YtphgpfgibpgfiaaGreatSAbsC
import Derived.Test.YtphgpfgibpgfiaaGreatST24r
set_option linter.unusedVariables false
set_option linter.unusedSimpArgs false
namespace Go.Proofs.YtphgpfgibpgfiaaGreat.Abs
open Go.RowKit
def Rm (x : Ar) : Prop := (x.Lo.length ≤ maxLen ∧ ∀ xy ∈ x.Lo, True) ∧ (x.Hi.length ≤ maxLen ∧ ∀ xy ∈ x.Hi, True) ∧ True
theorem Va {ls : List Lf} (h : Xo (.st (.pair (.sl (.int .u8)) (.pair (.sl (.int .u8)) (.pair (.bool) (.unit))))) ls) : ∃ x : Ar, Rm x ∧ ls = A0 x := by
 obtain ⟨x0, y0, h0, ⟨x1, y1, h1, ⟨x2, y2, h2, hu, rfl⟩, rfl⟩, rfl⟩ := h
 obtain ⟨a0, q0, rfl⟩ := (Y5 (Q := fun (x : UInt8) => True) (fun h => Aet h)) h0
 obtain ⟨a1, q1, rfl⟩ := (Y5 (Q := fun (x : UInt8) => True) (fun h => Aet h)) h1
 obtain ⟨a2, q2, rfl⟩ := Abp h2
 have hu : y2 = [] := hu
 subst hu
 exact ⟨⟨a0, a1, a2⟩, ⟨q0, q1, q2⟩, rfl⟩
def Un (x : Af) : Prop := (x.Key.length ≤ maxLen ∧ ∀ xy ∈ x.Key, True) ∧ (x.Val.length ≤ maxLen ∧ ∀ xy ∈ x.Val, True) ∧ True
theorem Zo {ls : List Lf} (h : Xo (.st (.pair (.sl (.int .u8)) (.pair (.sl (.int .u8)) (.pair (.bool) (.unit))))) ls) : ∃ x : Af, Un x ∧ ls = Ac x := by
 obtain ⟨x0, y0, h0, ⟨x1, y1, h1, ⟨x2, y2, h2, hu, rfl⟩, rfl⟩, rfl⟩ := h
 obtain ⟨a0, q0, rfl⟩ := (Y5 (Q := fun (x : UInt8) => True) (fun h => Aet h)) h0
 obtain ⟨a1, q1, rfl⟩ := (Y5 (Q := fun (x : UInt8) => True) (fun h => Aet h)) h1
 obtain ⟨a2, q2, rfl⟩ := Abp h2
 have hu : y2 = [] := hu
 subst hu
 exact ⟨⟨a0, a1, a2⟩, ⟨q0, q1, q2⟩, rfl⟩
def Agw (x : Ca) : Prop := (-9223372036854775808 ≤ x.Token ∧ x.Token ≤ 9223372036854775807) ∧ (-9223372036854775808 ≤ x.Snap ∧ x.Snap ≤ 9223372036854775807) ∧ (-9223372036854775808 ≤ x.Ts ∧ x.Ts ≤ 9223372036854775807) ∧ (x.Reads.length ≤ maxLen ∧ ∀ xy ∈ x.Reads, Rm xy) ∧ (x.Writes.length ≤ maxLen ∧ ∀ xy ∈ x.Writes, Un xy)
theorem Afz {ls : List Lf} (h : Xo (.st (.pair (.int .i64) (.pair (.int .i64) (.pair (.int .i64) (.pair (.sl (.st (.pair (.sl (.int .u8)) (.pair (.sl (.int .u8)) (.pair (.bool) (.unit)))))) (.pair (.sl (.st (.pair (.sl (.int .u8)) (.pair (.sl (.int .u8)) (.pair (.bool) (.unit)))))) (.unit))))))) ls) : ∃ x : Ca, Agw x ∧ ls = B4 x := by
 obtain ⟨x0, y0, h0, ⟨x1, y1, h1, ⟨x2, y2, h2, ⟨x3, y3, h3, ⟨x4, y4, h4, hu, rfl⟩, rfl⟩, rfl⟩, rfl⟩, rfl⟩ := h
 obtain ⟨a0, q0, rfl⟩ := N3 h0
 obtain ⟨a1, q1, rfl⟩ := N3 h1
 obtain ⟨a2, q2, rfl⟩ := N3 h2
 obtain ⟨a3, q3, rfl⟩ := (Y5 (Q := fun (x : Ar) => Rm x) (fun h => Va h)) h3
 obtain ⟨a4, q4, rfl⟩ := (Y5 (Q := fun (x : Af) => Un x) (fun h => Zo h)) h4
 have hu : y4 = [] := hu
 subst hu
 exact ⟨⟨a0, a1, a2, a3, a4⟩, ⟨q0, q1, q2, q3, q4⟩, rfl⟩
def Ab8 (x : Na) : Prop := (-9223372036854775808 ≤ x.What ∧ x.What ≤ 9223372036854775807) ∧ (-9223372036854775808 ≤ x.A ∧ x.A ≤ 9223372036854775807) ∧ (-9223372036854775808 ≤ x.B ∧ x.B ≤ 9223372036854775807) ∧ (-9223372036854775808 ≤ x.N ∧ x.N ≤ 9223372036854775807) ∧ (x.Key.length ≤ maxLen ∧ ∀ xy ∈ x.Key, True) ∧ Rm x.Rng
theorem Af4 {ls : List Lf} (h : Xo (.st (.pair (.int .i64) (.pair (.int .i64) (.pair (.int .i64) (.pair (.int .i64) (.pair (.sl (.int .u8)) (.pair (.st (.pair (.sl (.int .u8)) (.pair (.sl (.int .u8)) (.pair (.bool) (.unit))))) (.unit)))))))) ls) : ∃ x : Na, Ab8 x ∧ ls = Md x := by
 obtain ⟨x0, y0, h0, ⟨x1, y1, h1, ⟨x2, y2, h2, ⟨x3, y3, h3, ⟨x4, y4, h4, ⟨x5, y5, h5, hu, rfl⟩, rfl⟩, rfl⟩, rfl⟩, rfl⟩, rfl⟩ := h
 obtain ⟨a0, q0, rfl⟩ := N3 h0
 obtain ⟨a1, q1, rfl⟩ := N3 h1
 obtain ⟨a2, q2, rfl⟩ := N3 h2
 obtain ⟨a3, q3, rfl⟩ := N3 h3
 obtain ⟨a4, q4, rfl⟩ := (Y5 (Q := fun (x : UInt8) => True) (fun h => Aet h)) h4
 obtain ⟨a5, q5, rfl⟩ := Va h5
 have hu : y5 = [] := hu
 subst hu
 exact ⟨⟨a0, a1, a2, a3, a4, a5⟩, ⟨q0, q1, q2, q3, q4, q5⟩, rfl⟩
def Zj (x : Cb) : Prop := True ∧ (x.Ops.length ≤ maxLen ∧ ∀ xy ∈ x.Ops, Ab8 xy)
theorem Abf {ls : List Lf} (h : Xo (.st (.pair (.bool) (.pair (.sl (.st (.pair (.int .i64) (.pair (.int .i64) (.pair (.int .i64) (.pair (.int .i64) (.pair (.sl (.int .u8)) (.pair (.st (.pair (.sl (.int .u8)) (.pair (.sl (.int .u8)) (.pair (.bool) (.unit))))) (.unit))))))))) (.unit)))) ls) : ∃ x : Cb, Zj x ∧ ls = Z0 x := by
 obtain ⟨x0, y0, h0, ⟨x1, y1, h1, hu, rfl⟩, rfl⟩ := h
 obtain ⟨a0, q0, rfl⟩ := Abp h0
 obtain ⟨a1, q1, rfl⟩ := (Y5 (Q := fun (x : Na) => Ab8 x) (fun h => Af4 h)) h1
 have hu : y1 = [] := hu
 subst hu
 exact ⟨⟨a0, a1⟩, ⟨q0, q1⟩, rfl⟩
def Adk (x : C2) : Prop := (-9223372036854775808 ≤ x.R0 ∧ x.R0 ≤ 9223372036854775807) ∧ (-9223372036854775808 ≤ x.R1 ∧ x.R1 ≤ 9223372036854775807) ∧ (-9223372036854775808 ≤ x.R2 ∧ x.R2 ≤ 9223372036854775807) ∧ (-9223372036854775808 ≤ x.R3 ∧ x.R3 ≤ 9223372036854775807) ∧ (-9223372036854775808 ≤ x.R4 ∧ x.R4 ≤ 9223372036854775807) ∧ (-9223372036854775808 ≤ x.R5 ∧ x.R5 ≤ 9223372036854775807) ∧ (-9223372036854775808 ≤ x.R6 ∧ x.R6 ≤ 9223372036854775807) ∧ (-9223372036854775808 ≤ x.R7 ∧ x.R7 ≤ 9223372036854775807)
theorem Aee {ls : List Lf} (h : Xo (.st (.pair (.int .i64) (.pair (.int .i64) (.pair (.int .i64) (.pair (.int .i64) (.pair (.int .i64) (.pair (.int .i64) (.pair (.int .i64) (.pair (.int .i64) (.unit)))))))))) ls) : ∃ x : C2, Adk x ∧ ls = Vs x := by
 obtain ⟨x0, y0, h0, ⟨x1, y1, h1, ⟨x2, y2, h2, ⟨x3, y3, h3, ⟨x4, y4, h4, ⟨x5, y5, h5, ⟨x6, y6, h6, ⟨x7, y7, h7, hu, rfl⟩, rfl⟩, rfl⟩, rfl⟩, rfl⟩, rfl⟩, rfl⟩, rfl⟩ := h
 obtain ⟨a0, q0, rfl⟩ := N3 h0
 obtain ⟨a1, q1, rfl⟩ := N3 h1
 obtain ⟨a2, q2, rfl⟩ := N3 h2
 obtain ⟨a3, q3, rfl⟩ := N3 h3
 obtain ⟨a4, q4, rfl⟩ := N3 h4
 obtain ⟨a5, q5, rfl⟩ := N3 h5
 obtain ⟨a6, q6, rfl⟩ := N3 h6
 obtain ⟨a7, q7, rfl⟩ := N3 h7
 have hu : y7 = [] := hu
 subst hu
 exact ⟨⟨a0, a1, a2, a3, a4, a5, a6, a7⟩, ⟨q0, q1, q2, q3, q4, q5, q6, q7⟩, rfl⟩
def Zn (x : Ep) : Prop := Agw x.Tx ∧ Zj x.Prog ∧ Adk x.Regs
theorem Ab3 {ls : List Lf} (h : Xo (.st (.pair (.st (.pair (.int .i64) (.pair (.int .i64) (.pair (.int .i64) (.pair (.sl (.st (.pair (.sl (.int .u8)) (.pair (.sl (.int .u8)) (.pair (.bool) (.unit)))))) (.pair (.sl (.st (.pair (.sl (.int .u8)) (.pair (.sl (.int .u8)) (.pair (.bool) (.unit)))))) (.unit))))))) (.pair (.st (.pair (.bool) (.pair (.sl (.st (.pair (.int .i64) (.pair (.int .i64) (.pair (.int .i64) (.pair (.int .i64) (.pair (.sl (.int .u8)) (.pair (.st (.pair (.sl (.int .u8)) (.pair (.sl (.int .u8)) (.pair (.bool) (.unit))))) (.unit))))))))) (.unit)))) (.pair (.st (.pair (.int .i64) (.pair (.int .i64) (.pair (.int .i64) (.pair (.int .i64) (.pair (.int .i64) (.pair (.int .i64) (.pair (.int .i64) (.pair (.int .i64) (.unit)))))))))) (.unit))))) ls) : ∃ x : Ep, Zn x ∧ ls = Ee x := by
 obtain ⟨x0, y0, h0, ⟨x1, y1, h1, ⟨x2, y2, h2, hu, rfl⟩, rfl⟩, rfl⟩ := h
 obtain ⟨a0, q0, rfl⟩ := Afz h0
 obtain ⟨a1, q1, rfl⟩ := Abf h1
 obtain ⟨a2, q2, rfl⟩ := Aee h2
 have hu : y2 = [] := hu
 subst hu
 exact ⟨⟨a0, a1, a2⟩, ⟨q0, q1, q2⟩, rfl⟩
end Go.Proofs.YtphgpfgibpgfiaaGreat.Abs
