/-
 What is next, and what a reply makes of a state, on both sides.
-/
import Derived.Test.YtphgpfgibpgfiaaGreatSI24r
set_option linter.unusedVariables false
set_option linter.unusedSimpArgs false
namespace Go.Proofs.YtphgpfgibpgfiaaGreat.Abs
def Anv {σ σ' β β' ρ ρ' : Type} (φ : σ → σ') (ψ : β → β') (χ : ρ → ρ') : LR σ β ρ → LR σ' β' ρ'
 | .cont s => .cont (φ s)
 | .brk b => .brk (ψ b)
 | .ret r => .ret (χ r)
def Apy {β β' ρ ρ' : Type} (ψ : β → β') (χ : ρ → ρ') : Sum ρ β → Sum ρ' β'
 | .inl r => .inl (χ r)
 | .inr b => .inr (ψ b)
theorem Ac6 {σ σ' β β' ρ ρ' : Type} {f : σ → Option (LR σ β ρ)} {g : σ' → Option (LR σ' β' ρ')} (φ : σ → σ') (ψ : β → β') (χ : ρ → ρ') (h : ∀ s, g (φ s) = (f s).map (Anv φ ψ χ)) : ∀ n s, Fc g n (φ s) = (Fc f n s).map (Apy ψ χ)
 | 0, _ => rfl
 | n + 1, s => by
  rw [Fc, Fc, h]
  cases f s with
  | none => rfl
  | some x =>
   cases x with
   | cont s' => exact Ac6 φ ψ χ h n s'
   | brk b => rfl
   | ret r => rfl
theorem Y0 {α β : Type} (f : α → β) (xs : List α) (j : Int) : idx (xs.map f) j = (idx xs j).map f := by
 unfold idx
 split
 ·rw [List.getElem?_map]
 ·rfl
def Rg (p : Cb) : Prop := ∀ o ∈ p.Ops, -9223372036854775808 ≤ o.What ∧ o.What ≤ 9223372036854775807
theorem Yl {p : Cb} (h : Rg p) : Ev (oG p) = Hd p := by
 unfold Ev Hd
 have hf : E5 (oG p) = Ik p := by
  funext s
  unfold E5 Ik
  rw [show (oG p).Ops = p.Ops.map oO from rfl, List.length_map, Y0]
  cases hi : idx p.Ops s with
  | none => rfl
  | some o =>
   have := h o (Agz hi)
   rw [Option.map_some, Option.bind_some, Option.bind_some, An7 o _ this.1 this.2]
   rfl
 rw [hf]
 have hk : Jl (oG p) () = Km p () := by
  unfold Jl Km
  rw [show (oG p).Ops = p.Ops.map oO from rfl, List.length_map]
 cases Fc (Ik p) fuel 0 with
 | none => rfl
 | some x =>
  cases x with
  | inl r => rfl
  | inr e => exact hk
theorem Agd (p : Cb) (s : A7) : Ea (oG p) (oS s) = (Ic p s).map (Anv oS oS fun r => (oQ r.1, oS r.2.1, r.2.2)) := by
 unfold Ea Ic
 rw [show (oG p).Ops = p.Ops.map oO from rfl, List.length_map, show (oS s).PC = s.PC from rfl, show (oS s).Stopped = s.Stopped from rfl]
 by_cases hlt : s.PC < (p.Ops.length : Int)
 ·rw [if_pos (decide_eq_true hlt), if_pos (decide_eq_true hlt)]
  cases hst : s.Stopped with
  | true => rfl
  | false =>
   rw [if_pos (by rfl), if_pos (by rfl)]
   unfold Jf L5
   rw [show (oG p).Ops = p.Ops.map oO from rfl, show (oS s).PC = s.PC from rfl, Y0]
   cases hi : idx p.Ops s.PC with
   | none => rfl
   | some o =>
    rw [Option.map_some, Option.bind_some, Option.bind_some, Adf, Option.bind_some, show (oO o).What = o.What from rfl]
    by_cases h1 : o.What = 1
    ·rw [h1]; unfold C6; rw [show (oO o).What = o.What from rfl, h1]; rfl
    rw [if_neg (c := decide (o.What = 1) = true) (by rw [decide_eq_true_eq]; exact h1)]
    by_cases h2 : o.What = 2
    ·rw [h2]
     unfold C6
     rw [show (oO o).What = o.What from rfl, h2, show (oO o).B = o.B from rfl]
     rw [if_pos (by rfl), if_neg (by decide), if_pos (by rfl), if_pos (c := decide ((2 : Int) = 2) = true) (by rfl), show (oS s).Regs = s.Regs from rfl]
     by_cases hB : 0 ≤ o.B ∧ o.B < ((8 : Nat) : Int)
     ·rw [if_pos hB, if_pos hB]
      cases idx [s.Regs.R0, s.Regs.R1, s.Regs.R2, s.Regs.R3, s.Regs.R4, s.Regs.R5, s.Regs.R6, s.Regs.R7] o.B with
      | none => rfl
      | some u =>
       rw [Option.bind_some, Option.bind_some, Am9, Ang]
       rfl
     ·rw [if_neg hB, if_neg hB]; rfl
    rw [if_neg (c := decide (o.What = 2) = true) (by rw [decide_eq_true_eq]; exact h2)]
    by_cases h3 : o.What = 3
    ·rw [h3]; unfold C6; rw [show (oO o).What = o.What from rfl, h3]; rfl
    rw [if_neg (c := decide (o.What = 3) = true) (by rw [decide_eq_true_eq]; exact h3)]
    by_cases h4 : o.What = 4
    ·rw [h4]; unfold C6; rw [show (oO o).What = o.What from rfl, h4]; rfl
    rw [if_neg (c := decide (o.What = 4) = true) (by rw [decide_eq_true_eq]; exact h4)]
    have hno : (decide (1 ≤ o.What) && decide (o.What ≤ 4)) = false := by
     rw [Bool.and_eq_false_iff, decide_eq_false_iff_not, decide_eq_false_iff_not]; omega
    rw [hno, if_neg (by decide)]
    unfold Ju Eo
    rw [show (oO o).What = o.What from rfl, show (oO o).A = o.A from rfl, show (oO o).B = o.B from rfl, show (oO o).N = o.N from rfl, show (oS s).PC = s.PC from rfl, show (oS s).Regs = s.Regs from rfl, show (oS s).Stopped = s.Stopped from rfl, Ajg, Ajg, show s.PC + 1 + o.N = s.PC + o.N + 1 by omega]
    by_cases h5 : o.What = 5
    ·rw [if_pos (decide_eq_true h5), if_pos (decide_eq_true h5)]
     by_cases hA : 0 ≤ o.A ∧ o.A < ((8 : Nat) : Int)
     ·rw [if_pos hA, if_pos hA]
      cases Ck (C2.mk s.Regs.R0 s.Regs.R1 s.Regs.R2 s.Regs.R3 s.Regs.R4 s.Regs.R5 s.Regs.R6 s.Regs.R7) o.A o.N <;> rfl
     ·rw [if_neg hA, if_neg hA]; rfl
    rw [if_neg (c := decide (o.What = 5) = true) (by rw [decide_eq_true_eq]; exact h5), if_neg (c := decide (o.What = 5) = true) (by rw [decide_eq_true_eq]; exact h5)]
    by_cases h6 : o.What = 6
    ·rw [if_pos (decide_eq_true h6), if_pos (decide_eq_true h6)]
     by_cases hA : 0 ≤ o.A ∧ o.A < ((8 : Nat) : Int)
     ·rw [if_pos hA, if_pos hA]
      cases idx [s.Regs.R0, s.Regs.R1, s.Regs.R2, s.Regs.R3, s.Regs.R4, s.Regs.R5, s.Regs.R6, s.Regs.R7] o.A with
      | none => rfl
      | some u =>
       rw [Option.bind_some, Option.bind_some]
       by_cases hB : 0 ≤ o.B ∧ o.B < ((8 : Nat) : Int)
       ·rw [if_pos hB, if_pos hB]
        cases idx [s.Regs.R0, s.Regs.R1, s.Regs.R2, s.Regs.R3, s.Regs.R4, s.Regs.R5, s.Regs.R6, s.Regs.R7] o.B with
        | none => rfl
        | some w =>
         rw [Option.bind_some, Option.bind_some, ← Zv]
         cases I9 (wI (wI (u + w) + o.N)) with
         | none => rfl
         | some z =>
          rw [Option.bind_some, Option.bind_some, if_pos hA, if_pos hA]
          cases Ck (C2.mk s.Regs.R0 s.Regs.R1 s.Regs.R2 s.Regs.R3 s.Regs.R4 s.Regs.R5 s.Regs.R6 s.Regs.R7) o.A z <;> rfl
       ·rw [if_neg hB, if_neg hB]; rfl
     ·rw [if_neg hA, if_neg hA]; rfl
    rw [if_neg (c := decide (o.What = 6) = true) (by rw [decide_eq_true_eq]; exact h6), if_neg (c := decide (o.What = 6) = true) (by rw [decide_eq_true_eq]; exact h6)]
    by_cases h7 : o.What = 7
    ·rw [if_pos (decide_eq_true h7), if_pos (decide_eq_true h7)]
     by_cases hA : 0 ≤ o.A ∧ o.A < ((8 : Nat) : Int)
     ·rw [if_pos hA, if_pos hA]
      cases idx [s.Regs.R0, s.Regs.R1, s.Regs.R2, s.Regs.R3, s.Regs.R4, s.Regs.R5, s.Regs.R6, s.Regs.R7] o.A with
      | none => rfl
      | some u =>
       rw [Option.bind_some, Option.bind_some]
       by_cases hu : u = 0
       ·rw [if_pos (decide_eq_true hu), if_pos (decide_eq_true hu)]; rfl
       ·rw [if_neg (by rw [decide_eq_true_eq]; exact hu), if_neg (by rw [decide_eq_true_eq]; exact hu)]; rfl
     ·rw [if_neg hA, if_neg hA]; rfl
    rw [if_neg (c := decide (o.What = 7) = true) (by rw [decide_eq_true_eq]; exact h7), if_neg (c := decide (o.What = 7) = true) (by rw [decide_eq_true_eq]; exact h7)]
    by_cases h8 : o.What = 8
    ·rw [if_pos (decide_eq_true h8), if_pos (decide_eq_true h8)]; rfl
    ·rw [if_neg (by rw [decide_eq_true_eq]; exact h8), if_neg (by rw [decide_eq_true_eq]; exact h8)]; rfl
 ·rw [if_neg (by rw [decide_eq_true_eq]; exact hlt), if_neg (by rw [decide_eq_true_eq]; exact hlt)]
  rfl
theorem Akg {p : Cb} (h : Rg p) (s : A7) : Hk (oG p) (oS s) = (Ke p s).map fun r => (oQ r.1, oS r.2.1, r.2.2) := by
 unfold Hk Ke
 rw [Yl h]
 cases Hd p with
 | none => rfl
 | some b =>
  rw [Option.bind_some, Option.bind_some]
  cases b with
  | false => rfl
  | true =>
   show (if decide (s.PC < 0) = true then _ else _) = Option.map _ (if decide (s.PC < 0) = true then _ else _)
   by_cases h0 : s.PC < 0
   ·rw [if_pos (decide_eq_true h0), if_pos (decide_eq_true h0)]; rfl
   rw [if_neg (by rw [decide_eq_true_eq]; exact h0), if_neg (by rw [decide_eq_true_eq]; exact h0)]
   unfold Ji Me
   rw [Ac6 oS oS (fun r : Ej × A7 × Bool => (oQ r.1, oS r.2.1, r.2.2)) (Agd p)]
   cases Fc (Ic p) fuel s with
   | none => rfl
   | some x =>
    cases x with
    | inl r => rfl
    | inr b =>
     show Jo (oG p) (oS b) = (J6 p b).map _
     unfold Jo J6
     rw [show (oG p).Ops = p.Ops.map oO from rfl, List.length_map]
     rfl
end Go.Proofs.YtphgpfgibpgfiaaGreat.Abs
